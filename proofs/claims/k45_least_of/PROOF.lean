import PyProof.Rows.All
import Wide.All
import OpenK.AllK
import Wide.FinOn
import Lean
import PyProof.EqAt
import PyProof.EqKinds
import PyProof.TupleCall
import PySem.Challenge.RW_turnframe_k45_least_of
set_option Elab.async false
set_option linter.all false
set_option maxRecDepth 100000
local macro_rules | `(tactic| omega) => `(tactic| first | lia | omega (config := {}))
local macro_rules | `(⋯) => `(by omega)
local macro_rules | `(∅) => `(by decide)
local macro_rules | `(‹2›) => `(⟨rfl,rfl,rfl,by decide +kernel,rfl,by decide +kernel,by decide +kernel⟩)
local macro_rules | `(‹4›) => `(by decide +kernel)
abbrev Q0:=@Nat.le_trans
abbrev Q1:=@List.getD_eq_getElem?_getD
abbrev Q2:=@List.length_map
abbrev Q3:=@Nat.le_refl
abbrev Q4:=@List.getElem?_eq_getElem
abbrev Q5:=@Nat.lt_of_le_of_lt
abbrev Q6:=@List.mem_singleton
abbrev Q7:=@Nat.pow_le_pow_right
abbrev Q8:=@Nat.lt_of_lt_of_le
abbrev Q9:=@Nat.mul_pos
abbrev Qa:=@List.length_take
abbrev Qb:=@List.getElem?_map
abbrev Qc:=@List.mem_of_getElem?
abbrev Qd:=@Nat.pow_pos
abbrev Qe:=@List.mem_cons
abbrev Qf:=@Nat.zero_le
abbrev Qg:=@List.length_append
abbrev Qh:=@List.size_toArray
abbrev Qi:=@Nat.ne_of_lt
abbrev Qj:=@Int.natAbs_natCast
abbrev Qk:=@Nat.mul_le_mul_left
abbrev Ql:=@List.getElem_mem
abbrev Qm:=@Nat.mul_le_mul
abbrev Qn:=@List.map_append
abbrev Qo:=@List.getElem?_eq_some_iff
abbrev Qp:=@Nat.mul_le_mul_right
abbrev Qq:=@Nat.pow_succ
abbrev Qr:=@Int.natAbs_mul
abbrev Qs:=@List.length_range
abbrev Qu:=@Int.toNat_natCast
abbrev Qv:=@Int.mul_comm
abbrev Qw:=@Int.zero_add
abbrev Qx:=@List.mem_append
abbrev Qy:=@Bool.false_ne_true
abbrev Qz:=@Nat.mul_assoc
abbrev W0:=@Int.mul_assoc
abbrev W1:=@Int.natCast_mul
abbrev W3:=@Rat.num_divInt_den
abbrev W4:=@List.mem_map
abbrev W5:=@List.take_succ
abbrev W6:=@List.length_set
abbrev W7:=@List.length_drop
abbrev W8:=@Int.mul_pos
abbrev W9:=@Rat.divInt_eq_divInt_iff
abbrev Wa:=@List.length_replicate
abbrev Wb:=@Int.gcd_dvd_right
abbrev Wc:=@Nat.add_sub_cancel
abbrev Wd:=@Nat.lt_irrefl
abbrev We:=@List.getElem?_take
abbrev Wf:=@List.getElem?_range
abbrev Wg:=@List.mem_append_right
abbrev Wh:=@List.getElem?_append_left
abbrev Wi:=@Nat.mul_comm
abbrev Wj:=@List.mem_cons_self
abbrev Wl:=@List.mem_cons_of_mem
abbrev Wm:=@Int.fmod_eq_emod_of_nonneg
abbrev Wo:=@List.getElem?_append_right
abbrev Wp:=@Nat.pow_add
abbrev Wq:=@Nat.sub_self
abbrev Wr:=@List.length_reverse
abbrev Ws:=@Nat.le_mul_of_pos_left
abbrev Wt:=@List.take_of_length_le
abbrev Wv:=@Nat.one_mul
abbrev Ww:=@Int.natCast_emod
abbrev Wx:=@List.length_zipWith
abbrev Wy:=@List.take_length
abbrev Wz:=@List.lookup_cons
abbrev U0:=@Int.mul_neg
abbrev U1:=@Int.gcd_dvd_left
abbrev U2:=@Rat.divInt_mul_divInt
abbrev U3:=@List.getElem?_eq_none
abbrev U4:=@List.mem_of_mem_take
abbrev U7:=@Nat.pow_one
abbrev U8:=@Nat.pow_le_pow_left
abbrev U9:=@List.mem_range
abbrev Ua:=@Nat.lt_trans
abbrev Ub:=@Nat.le_mul_of_pos_right
abbrev Uc:=@Int.emod_eq_zero_of_dvd
abbrev Ud:=@Nat.le_of_dvd
abbrev Ue:=@Int.natAbs_dvd_natAbs
abbrev Uf:=@List.getElem?_reverse
abbrev Ug:=@Nat.one_pow
abbrev Uh:=@Nat.le_of_lt
abbrev Ui:=@Nat.le_of_eq
abbrev Uj:=@List.getElem?_replicate
abbrev Uk:=@List.not_mem_nil
abbrev Ul:=@Int.emod_eq_of_lt
abbrev Um:=@List.take_zero
abbrev Uo:=@List.range_succ
abbrev Up:=@List.filterMap_cons
abbrev Uq:=@Int.mul_one
abbrev Ur:=@List.map_cons
abbrev Us:=@List.append_nil
abbrev Ut:=@Nat.pos_of_ne_zero
abbrev Uu:=@Int.mul_nonneg
abbrev Uv:=@Int.lt_of_not_ge
abbrev Uw:=@List.getElem?_drop
abbrev Ux:=@List.getElem?_set
abbrev Uy:=@List.getElem_of_mem
abbrev Uz:=@Nat.sub_zero
abbrev ZZfg:=PySem.W.Frag
abbrev ZZla:=List PySem.Addr
abbrev ZZmg:=PySem.Str->Option PySem.Value
namespace L2
open PySem PySem.Spec PyProof.Rows
abbrev Key:=Sum Int Str
def Zpj:Key->Value->Bool
 | .inl k,v=>Value.isInt k v
 | .inr x,v=>Value.isStrOf x v
def ZrR(w:World):Key->Int
 | .inl k=>hashInt k
 | .inr x=>hashStr w x
theorem ZaX:∀ {k:Key} {v:Value},Zpj k v=true->(∃i t,k=Sum.inl i/\v=Value.int i t)\/(∃x t,k=Sum.inr x/\v=Value.str x t)
 | .inl i,v,h=>by
  obtain ⟨t,e⟩:=Value.isInt_shape (k:=i) (v:=v) h;exact .inl ⟨i,t,rfl,e⟩
 | .inr x,v,h=>by
  obtain ⟨t,e⟩:=Value.isStrOf_shape (x:=x) (v:=v) h;exact .inr ⟨x,t,rfl,e⟩
theorem Zpk(a b:Int):decide ((Sum.inl a:Key)=Sum.inl b)=(a==b):=by
 by_cases e:a=b
 ·subst e;simp
 ·have h:¬(Sum.inl a:Key)=Sum.inl b:=λq=>e (Sum.inl.inj q);rw[decide_eq_false h];exact (beq_eq_false_iff_ne.mpr e).symm
theorem Zpl(a b:Str):decide ((Sum.inr a:Key)=Sum.inr b)=decide (a=b):=by
 by_cases e:a=b
 ·subst e;simp
 ·have h:¬(Sum.inr a:Key)=Sum.inr b:=λq=>e (Sum.inr.inj q);rw[decide_eq_false h,decide_eq_false e]
theorem Zpm(a:Int)(b:Str):decide ((Sum.inl a:Key)=Sum.inr b)=false:=decide_eq_false (λq=>nomatch q)
theorem Zpn(a:Str)(b:Int):decide ((Sum.inr a:Key)=Sum.inl b)=false:=decide_eq_false (λq=>nomatch q)
def Zdx(prog:Program)(w:World):PySem.KeyKind prog w Key where
 is:=Zpj
 hash:=ZrR w
 inj:=λv a b ha hb=>by
  rcases ZaX ha with ⟨i,t,rfl,rfl⟩|⟨x,t,rfl,rfl⟩
  ·rcases ZaX hb with ⟨j,u,rfl,e⟩|⟨y,u,rfl,e⟩
   ·injection e with e1 _;rw[e1]
   ·exact nomatch e
  ·rcases ZaX hb with ⟨j,u,rfl,e⟩|⟨y,u,rfl,e⟩
   ·exact nomatch e
   ·injection e with e1 _;rw[e1]
 byValue:=λk v h=>by
  rcases ZaX h with ⟨i,t,rfl,rfl⟩|⟨x,t,rfl,rfl⟩ <;> rfl
 pyHash:=λhv h=>by
  rcases ZaX hv with ⟨i,t,rfl,rfl⟩|⟨x,t,rfl,rfl⟩
  ·exact wpAny_pyHash_int h
  ·exact wpAny_pyHash_str h
 eqBool:=λhu hv h=>by
  rcases ZaX hu with ⟨i,t,rfl,rfl⟩|⟨x,t,rfl,rfl⟩
  ·rcases ZaX hv with ⟨j,u,rfl,rfl⟩|⟨y,u,rfl,rfl⟩
   ·rw[Zpk] at h;exact wpAny_eqBool_int h
   ·rw[Zpm] at h;exact SeqAt.EqAt.int_str i t y u _ _ _ _ h
  ·rcases ZaX hv with ⟨j,u,rfl,rfl⟩|⟨y,u,rfl,rfl⟩
   ·rw[Zpn] at h;exact SeqAt.EqAt.str_int x t j u _ _ _ _ h
   ·rw[Zpl] at h;exact wpAny_eqBool_str h
 «strs»:=λk x t v h=>by
  rcases ZaX h with ⟨i,u,rfl,e⟩|⟨y,u,rfl,e⟩
  ·exact nomatch e
  ·injection e with e1 _
   subst e1
   cases v <;> rfl
inductive V where
 |non|bl (b:Bool)|int (i:Int)|str (x:Str)|byt (b:Array UInt8)|flt (b:UInt64)|ref (a:Addr)|ty (n:String)
 deriving DecidableEq
def RelV:V->Value->Prop
 | .non,u=>u=Value.none
 | .bl b,u=>u=Value.bool b
 | .int i,u=>∃t,u=Value.int i t
 | .str x,u=>∃t,u=Value.str x t
 | .byt b,u=>∃t,u=Value.bytes b t
 | .flt b,u=>∃t,u=Value.float b t
 | .ref a,u=>u=Value.ref a
 | .ty n,u=>u=Value.type n
abbrev Vals:List V->List Value->Prop:=Paired RelV
theorem Vals.length{xs:List V}{us:List Value}(r:Vals xs us):xs.length=us.length:=Paired.length r
theorem Vals.get:∀ {xs:List V} {us:List Value} {i:Nat} {x:V},Vals xs us->xs[i]?=some x->∃u,us[i]?=some u/\RelV x u
 |_,_,_,_,.nil,e=>by simp at e
 |_,_,0,_,.cons r _,e=>by simp at e;subst e;exact ⟨_,rfl,r⟩
 |_,_,i+1,x,.cons _ t,e=>by
  obtain ⟨u,h1,h2⟩:=Vals.get (i:=i) (x:=x) t (by simpa using e);exact ⟨u,by simpa using h1,h2⟩
theorem Vals.set{x:V}{u:Value}(r:RelV x u):∀ {xs:List V} {us:List Value} (i:Nat),Vals xs us->Vals (xs.set i x) (us.set i u)
 |_,_,_,.nil => .nil
 |_,_,0,.cons _ t => .cons r t
 |_,_,i+1,.cons q t => .cons q (Vals.set r i t)
theorem Vals.append:∀ {xs ys:List V} {us ws:List Value},Vals xs us->Vals ys ws->Vals (xs++ys) (us++ws)
 |_,_,_,_,.nil,s=>s
 |_,_,_,_,.cons r t,s => .cons r (Vals.append t s)
theorem Vals.take:∀ {xs:List V} {us:List Value} (n:Nat),Vals xs us->Vals (xs.take n) (us.take n)
 |_,_,0,_ => .nil
 |_,_,_+1,.nil => .nil
 |_,_,n+1,.cons r t => .cons r (Vals.take n t)
theorem Vals.drop:∀ {xs:List V} {us:List Value} (n:Nat),Vals xs us->Vals (xs.drop n) (us.drop n)
 |_,_,0,r=>r
 |_,_,_+1,.nil => .nil
 |_,_,n+1,.cons _ t=>Vals.drop n t
def RelO:Option V->Option Value->Prop
 |some v,some u=>RelV v u
 |none,none=>True
 |_,_=>False
def KV{κ:Type}:List (κ×V)->List (κ×Value)->Prop:=Paired λ(p:κ×V) (q:κ×Value)=>p.1=q.1/\RelV p.2 q.2
def kV:Key->V
 | .inl i => .int i
 | .inr x => .str x
inductive HO where
    | lst (xs:List V)
    | tup (xs:List V)
    | dK (kvs:List (Key×V)) | dT (kvs:List (List Key×V))
    | set (S:Int->Bool) (n:Nat)
    | ins (C dx:Addr) (fs:List (Str×V))
    | own (x:Addr)
    | xd (fs:List (Str×V))
    | met (f x:Addr)
    | rng (lo hi:Int)
    | frz (o:Obj) (u:HO)
    | tbl (ps:Array Value)
    | ext (φ:Heap->Prop)
abbrev Hp:=Addr->Option HO
def upd(H:Hp)(a:Addr)(o:HO):Hp:=λb=>if b=a then some o else H b
theorem Zaf{H:Hp}{a:Addr}{o:HO}:upd H a o a=some o:=by unfold upd;rw[if_pos rfl]
theorem Zau{H:Hp}{a b:Addr}{o:HO}(h:b≠a):upd H a o b=H b:=by unfold upd;rw[if_neg h]
theorem Zay{H:Hp}{a b:Addr}{o:HO}(h:H a=some o)(h':H b=none):a≠b:=by
 intro e;subst e;rw[h] at h';cases h'
section
variable(P:Program)(w:World)
def ObjOk(H:Hp)(h:Heap)(a:Addr):HO->Prop
  | .lst xs=>xs.length<=sizeLine/\∃(its:List Value) (n:Nat),Vals xs its/\h.get? a=some { cls:=.type "list", data:=.seq its.toArray n }
  | .tup xs=>xs.length<=sizeLine/\∃its:List Value,Vals xs its/\IsTup h a its.toArray
  | .dK kvs=>kvs.length<=sizeLine/\(a==sysModules)=false/\∃vs,KV kvs vs/\h.DictOf (Zdx P w) a vs
  | .dT kvs=>kvs.length<=sizeLine/\(a==sysModules)=false/\∃xs:List (List Key×Addr×Value),
      Paired (λ(p:List Key×V) (q:List Key×Addr×Value)=>p.1=q.1/\H q.2.1=some (.tup (p.1.map kV))/\RelV p.2 q.2.2) kvs xs ∧
      ∃o es ep,h.get? a=some o/\o.ExactDict/\o.data = .dict es ep/\es.toList=xs.map (entryOfKey (tupleKind (Zdx P w)))/\(xs.map (·.1)).Nodup
  | .set S n=>h.SetOf (intKind P w) a S n
  | .ins C dx fs=>H dx=some (.own a)/\fs.length<=1000/\dx≠a/\h.get? a=some (PySem.W.instObj C dx) ∧
      ∃mA,h.Ns1 dx mA/\(∀f,RelO (fs.lookup f) (mA f))/\PySem.Within mA (fs.map (·.1))
  | .own _=>∃o,h.get? a=some o
  | .xd fs=>∃mA,h.Ns1 a mA/\∀f,RelO (fs.lookup f) (mA f)
  | .rng lo hi=>∃t u v,h.get? a=some { cls:=.type "range", data:=.fields #[.int lo t,.int hi u,.int 1 v] }
  | .frz o u=>h.get? a=some o/\ObjOk H h a u
  | .tbl ps=>h.get? a=some { cls:=.none,data:=.fields ps }
  | .met f x=>h.get? a=some (PySem.W.methodObj (.ref f) (.ref x))
  | .ext φ=>φ h/\(∃o,h.get? a=some o)/\∀h1 h2:Heap,φ h1->(∀o,h1.get? a=some o->h2.get? a=some o)->φ h2
def HOk(H:Hp)(h:Heap):Prop:=∀a o,H a=some o->ObjOk P w H h a o
end
section
variable{P:Program}{w:World}{H H':Hp}{h h':Heap}{a:Addr}{o:HO}
theorem ObjOk.lt(x:ObjOk P w H h a o):a<h.objs.size:=by
 cases o with
 |lst xs=>obtain ⟨_,_,_,_,e⟩:=x;exact Heap.lt_size e
 |tup xs=>obtain ⟨_,_,_,p⟩:=x;exact p.lt
 |dK kvs=>obtain ⟨_,_,_,_,o,_,_,e,_⟩:=x;exact Heap.lt_size e
 |dT kvs=>obtain ⟨_,_,_,_,o,_,_,e,_⟩:=x;exact Heap.lt_size e
 |set S n=>obtain ⟨o,_,_,_,e,_⟩:=x;exact Heap.lt_size e
 |ins C dx fs=>obtain ⟨_,_,_,e,_⟩:=x;exact Heap.lt_size e
 |own y=>obtain ⟨_,e⟩:=x;exact Heap.lt_size e
 |xd fs=>obtain ⟨_,⟨_,_,_,e,_⟩,_⟩:=x;exact Heap.lt_size e
 |rng lo hi=>obtain ⟨_,_,_,e⟩:=x;exact Heap.lt_size e
 |frz ob u=>obtain ⟨e,_⟩:=x;exact Heap.lt_size e
 |tbl ps=>exact Heap.lt_size (show h.get? a=some _ from x)
 |met f y=>exact Heap.lt_size (show h.get? a=some _ from x)
 |ext φ=>obtain ⟨_,⟨_,e⟩,_⟩:=x;exact Heap.lt_size e
theorem Paired.mapP{α β:Type}{F G:α->β->Prop}:∀ {l₁:List α} {l₂:List β},Paired F l₁ l₂->(∀a b,F a b->G a b)->Paired G l₁ l₂
 |_,_,.nil,_ => .nil
 |_,_,.cons r t,f => .cons (f _ _ r) (Paired.mapP t f)
theorem ObjOk.stay(x:ObjOk P w H h a o)(k:∀b u,(b=a\/H b=some (.own a))->h.get? b=some u->h'.get? b=some u)
    (ho:∀b,H b=some (.own a)->H' b=some (.own a)) (ht:∀b xs,H b=some (.tup xs)->H' b=some (.tup xs)):ObjOk P w H' h' a o:=by
  induction o with
  | lst xs=>obtain ⟨z,its,n,r,e⟩:=x; exact ⟨z,its,n,r,k _ _ (.inl rfl) e⟩
  | tup xs=>obtain ⟨z,its,r,ob,e,c⟩:=x; exact ⟨z,its,r,ob,k _ _ (.inl rfl) e,c⟩
  | dK kvs=>obtain ⟨z,y,vs,r,ob,es,ep,e,c⟩:=x; exact ⟨z,y,vs,r,ob,es,ep,k _ _ (.inl rfl) e,c⟩
  | dT kvs =>
    obtain ⟨z,y,xs,r,ob,es,ep,e,c⟩:=x;exact ⟨z,y,xs,Paired.mapP r λp q z=>⟨z.1,ht _ _ z.2.1,z.2.2⟩,ob,es,ep,k _ _ (.inl rfl) e,c⟩
  | set S n=>obtain ⟨ob,es,ep,t,e,c⟩:=x; exact ⟨ob,es,ep,t,k _ _ (.inl rfl) e,c⟩
  | ins C dx fs =>
    obtain ⟨d,z,ne,e,mA,⟨od,es,ep,e2,c⟩,r⟩:=x;exact ⟨ho _ d,z,ne,k _ _ (.inl rfl) e,mA,⟨od,es,ep,k _ _ (.inr d) e2,c⟩,r⟩
  | own y=>obtain ⟨ob,e⟩:=x; exact ⟨ob,k _ _ (.inl rfl) e⟩
  | xd fs=>obtain ⟨mA,⟨od,es,ep,e,c⟩,r⟩:=x; exact ⟨mA,⟨od,es,ep,k _ _ (.inl rfl) e,c⟩,r⟩
  | rng lo hi=>obtain ⟨t,u,v,e⟩:=x; exact ⟨t,u,v,k _ _ (.inl rfl) e⟩
  | frz ob u ih=>obtain ⟨e,q⟩:=x; exact ⟨k _ _ (.inl rfl) e,ih q⟩
  | tbl ps =>
    have e:h.get? a=some { cls:=.none,data:=.fields ps }:=x;show h'.get? a=some { cls:=.none,data:=.fields ps };exact k a _ (.inl rfl) e
  | met f y =>
    have e:h.get? a=some (PySem.W.methodObj (.ref f) (.ref y)):=x;show h'.get? a=some (PySem.W.methodObj (.ref f) (.ref y));exact k a _ (.inl rfl) e
  | ext φ=>obtain ⟨p,⟨o,e⟩,st⟩:=x; exact ⟨st _ _ p λo q=>k _ _ (.inl rfl) q,⟨o,k _ _ (.inl rfl) e⟩,st⟩
theorem HOk.lt(x:HOk P w H h)(e:H a=some o):a<h.objs.size:=(x a o e).lt
theorem HOk.fresh(x:HOk P w H h)(e:h.objs.size<=a):H a=none:=by
 cases q:H a with
 |none=>rfl
 |some u=>exact absurd (Q8 (x.lt q) e) (Wd _)
theorem HOk.kept(x:HOk P w H h)(k:∀b u,h.get? b=some u->h'.get? b=some u):HOk P w H h':=λa o e =>
 (x a o e).stay (λb u _ q=>k b u q) (λ_ q=>q) λ_ _ q=>q
theorem HOk.laid(x:HOk P w H h)(k:∀b u,h.get? b=some u->h'.get? b=some u)(hp:h.objs.size<=a)(new:ObjOk P w (upd H a o) h' a o):HOk P w (upd H a o) h':=λb u e=>by
 have hn:=x.fresh hp
 by_cases hb:b=a
 ·subst hb;rw[Zaf] at e;cases e;exact new
 ·rw[Zau hb] at e;exact (x b u e).stay (λc v _ q=>k c v q) (λc q=>by rw[Zau (Zay q hn)];exact q) λc xs q=>by rw[Zau (Zay q hn)];exact q
end
def Rd(H:Hp)(a:Addr)(u:HO):Prop:=H a=some u\/∃o,H a=some (.frz o u)
theorem Rd.ok{P:Program}{w:World}{H:Hp}{h:Heap}{a:Addr}{u:HO}(r:Rd H a u)(x:HOk P w H h):ObjOk P w H h a u:=by
 rcases r with r|⟨o,r⟩
 ·exact x a u r
 ·obtain ⟨_,q⟩:=x a _ r;exact q
def Mut:Option HO->Prop
 |some (.lst _)=>True
 |some (.dK _)=>True
 |some (.dT _)=>True
 |some (.set _ _)=>True
 |some (.ins _ _ _)=>True
 |some (.ext _)=>True
 |_=>False
section
variable{P:Program}{w:World}{H:Hp}{h h':Heap}{x e:Addr}{o':HO}
theorem HOk.write(ok:HOk P w H h)(mu:Mut (H x))(he:e=x\/H e=some (.own x))(k:∀b u,b≠e->h.get? b=some u->h'.get? b=some u)(heo:∃u,h'.get? e=some u)
    (new:ObjOk P w (upd H x o') h' x o'):HOk P w (upd H x o') h':=λb u q=>by
  have nown:∀c y,H c=some (.own y)->c≠x:=λc y r z=>by subst z; rw[r] at mu; exact mu
  have ntup:∀c xs,H c=some (.tup xs)->c≠x:=λc xs r z=>by subst z; rw[r] at mu; exact mu
  by_cases hb:b=x
  · subst hb; rw[Zaf] at q; cases q; exact new
  · rw[Zau hb] at q
    by_cases hbe:b=e
    · have q':H b=some (.own x):=by
        rcases he with z | z
        · exact absurd (hbe.trans z) hb
        · rw[hbe]; exact z
      rw[q] at q'; cases q';obtain ⟨v,hv⟩:=heo;exact ⟨v,by rw[hbe]; exact hv⟩
    · refine (ok b u q).stay (λc v hc r=>k c v ?_ r) (λc r=>by rw[Zau (nown c b r)]; exact r) λc xs r=>by rw[Zau (ntup c xs r)]; exact r
      rcases hc with rfl | hc
      · exact hbe
      · rintro rfl
        rcases he with z | z
        · exact nown c b hc z
        · rw[hc] at z; cases z; exact hb rfl
end
structure Un (fs ex:ZZla) (H H':Hp) (h h':Heap):Prop where
 keep:∀b o,h.get? b=some o->H b=none->b∉fs->b∉ex->h'.get? b=some o
 slot:∀b o,h.get? b=some o->H b=none->b∈fs->b∉ex->∃sl,h'.get? b=some { o with slots:=sl }
 free:∀b o,h.get? b=some o->H b=none->b∉ex->H' b=none
 there:∀b o,h.get? b=some o->b∉ex->∃o',h'.get? b=some o'
 tups:∀b xs,H b=some (.tup xs)->H' b=some (.tup xs)
 frzs:∀b o u,H b=some (.frz o u)->H' b=some (.frz o u)
 tbls:∀b ps,H b=some (.tbl ps)->∃more,H' b=some (.tbl (ps++more))
section
variable{fs fs' ex ex':ZZla}{H H1 H2:Hp}{h h1 h2 h':Heap}{a x e:Addr}{o:HO}
theorem Un.any(u:Un fs ex H H1 h h1){b:Addr}{ob:Obj}(q:h.get? b=some ob)(n:H b=none)(hx:b∉ex):∃sl,h1.get? b=some { ob with slots:=sl }:=by
 by_cases hb:b∈fs
 ·exact u.slot b ob q n hb hx
 ·exact ⟨ob.slots,u.keep b ob q n hb hx⟩
theorem Un.kept(k:∀b u,h.get? b=some u->h'.get? b=some u):Un fs ex H H h h' :=
 ⟨λb ob q _ _ _=>k b ob q,λb ob q _ _ _=>⟨ob.slots,k b ob q⟩,λ_ _ _ n _=>n,λb ob q _=>⟨ob,k b ob q⟩,λ_ _ q=>q,λ_ _ _ q=>q,λ_ ps q=>⟨#[],by rw[q];simp⟩⟩
theorem Un.refl:Un fs ex H H h h:=Un.kept λ_ _ q=>q
theorem Un.laid(k:∀b u,h.get? b=some u->h'.get? b=some u)(hp:h.objs.size<=a)(hn:H a=none):Un fs ex H (upd H a o) h h' where
 keep:=λb u q _ _ _=>k b u q
 slot:=λb u q _ _ _=>⟨u.slots,k b u q⟩
 free:=λb u q n _=>by rw[Zau (Qi (Q8 (Heap.lt_size q) hp))];exact n
 there:=λb u q _=>⟨u,k b u q⟩
 tups:=λb xs q=>by rw[Zau (Zay q hn)];exact q
 frzs:=λb u xs q=>by rw[Zau (Zay q hn)];exact q
 tbls:=λb ps q=>⟨#[],by rw[Zau (Zay q hn),q];simp⟩
theorem Un.write(mu:Mut (H x))(he:e=x\/H e=some (.own x))(k:∀b u,b≠e->h.get? b=some u->h'.get? b=some u)(heo:∃u,h'.get? e=some u):Un fs ex H (upd H x o) h h':=by
 have hx:∀b,H b=none->b≠x:=λb n z=>by subst z;rw[n] at mu;exact mu
 have hb:∀b,H b=none->b≠e:=λb n z=>by
  subst z;rcases he with r|r
  ·exact hx b n r
  ·rw[n] at r;cases r
 have hm:∀b u,H b=some u->¬Mut (some u)->b≠x:=λb u q nm z=>by subst z;rw[q] at mu;exact nm mu
 refine ⟨λb u q n _ _=>k b u (hb b n) q,λb u q n _ _=>⟨u.slots,k b u (hb b n) q⟩,λb u q n _=>by rw[Zau (hx b n)];exact n,λb u q _=>?_,
  λb xs q=>by rw[Zau (hm b _ q λz=>z)];exact q,λb u xs q=>by rw[Zau (hm b _ q λz=>z)];exact q,λb ps q=>⟨#[],by rw[Zau (hm b _ q λz=>z),q];simp⟩⟩
 by_cases hbe:b=e
 ·subst hbe;exact heo
 ·exact ⟨u,k b u hbe q⟩
end
def trk(h:Heap)(H:Hp):ZZla:=(List.range h.objs.size).filter λa=>(H a).isSome
def Zmb(h:Heap)(H:Hp):Heap:=PySem.W.hideAll h (trk h H)
theorem Zki(h:Heap)(H:Hp):(Zmb h H).objs.size=h.objs.size:=PySem.W.hideAll_size _ _
theorem Zmc{h:Heap}{H:Hp}{b:Addr}{o:Obj}(e:h.get? b=some o)(n:H b=none):(Zmb h H).get? b=some o :=
 PySem.W.hideAll_get _ e λhm=>by
  have q:(H b).isSome=true:=(List.mem_filter.mp hm).2;rw[n] at q;simp at q
theorem Zn4{h:Heap}{H:Hp}{b:Addr}{o:Obj}(e:(Zmb h H).get? b=some o):h.get? b=some o/\H b=none:=by
 have e':h.get? b=some o:=PySem.W.of_hideAll (trk h H) e;refine ⟨e',?_⟩
 cases q:H b with
 |none=>rfl
 |some x =>
  have hm:b∈trk h H:=List.mem_filter.mpr ⟨U9.mpr (Heap.lt_size e'),by simp[q]⟩;have z:(Zmb h H).get? b=none:=PySem.W.hideAll_none (trk h H) hm;rw[z] at e;cases e
def Zn5(g h:Heap)(L:Addr):List (Addr×Obj):=(List.range h.objs.size).filterMap λa=>if a=L\/(g.get? a).isSome=true then none else (h.get? a).map λo=>(a,o)
def ZjC(g h:Heap)(L d:Addr):List (Addr×Obj):=(Zn5 g h L).filter λp=>decide (p.1≠d)
structure Mod (K:ZZfg) (mg:ZZmg) (base:Heap):Prop where
 kin:K.In base
 glob:base.Ns mainGlobals mg
 blt:∃mb,base.Ns builtinsNs mb/\∀x:Str,x ≠"__name__" -> mb x=bootBuiltins x
 nolimit:base.NoLimit
structure Cx where
 prog:Program
 w:World
 K:ZZfg
 mg:Str->Option Value
 base:Heap
 A:Around
 N:List Str
 s₀:Shared
 H₀:Hp
 env:Env
 outer:List Env
 stack:List Env
 ex:ZZla
 fn:Str->Bool
 calm:Bool
 pn:List (Addr×Obj)
 xe:Value->Shared->Prop
def frs(l:List Env):ZZla:=l.filterMap (·.frame)
abbrev Cx.fs(X:Cx):ZZla:=frs X.outer
def Vis(sc:Scope)(x:Str):Prop:=sc.names.lookup x=some .local\/sc.names.lookup x=some .cell\/sc.names.lookup x=some .free
def Loc(sc:Scope)(x:Str):Prop:=sc.names.lookup x=some .local\/sc.names.lookup x=some .cell
def Zrv(env:Env)(h:Heap)(m:Str->Option Value)(x:Str)(u:Value):Prop :=
 (env.kindOf x=some .local/\m x=some u)\/((env.kindOf x=some .cell\/env.kindOf x=some .free)/\∃c,env.cells.lookup x=some c/\h.IsCell c (some u))
structure Cx.Ok (X:Cx):Prop where
 mod:Mod X.K X.mg X.base
 kind:X.env.scope.kind = .function
 glob:X.env.globals=mainGlobals
 blt:X.env.builtins=builtinsNs
 above:X.s₀.heap.objs.size<=X.env.locals
 inj:∀x y c,X.env.cells.lookup x=some c->X.env.cells.lookup y=some c->x=y
 has:∀x,(X.env.kindOf x=some .cell\/X.env.kindOf x=some .free)->∃c,X.env.cells.lookup x=some c
 cab:∀x c,X.fn x=true->X.env.cells.lookup x=some c->X.s₀.heap.objs.size<=c
 hd:X.calm=true->X.A.handled=none
 frames:X.A.frames=some X.stack
 stk:X.stack=X.outer\/(X.stack=X.env::X.outer/\X.env.frame=some X.env.locals)
 exf:∀b∈X.ex,b≠X.env.locals/\∀x c,X.env.cells.lookup x=some c->c≠b
 bs:∀b o,X.base.get? b=some o->X.s₀.heap.get? b=some o/\X.H₀ b=none
 bsz:X.base.objs.size<=X.s₀.heap.objs.size
 noex:∀b o,X.base.get? b=some o->b∉X.ex
 exfs:∀b∈X.ex,b∉X.fs
 funs:X.s₀.heap.FunFrames X.base X.outer
 frf:∀b∈X.fs,X.H₀ b=none
structure Inv (X:Cx) (pins:List (Addr×Obj)) (σ:List (Option V)) (H:Hp) (s:Shared):Prop where
 ok:X.Ok
 os:s.os=X.s₀.os
 bare:AllBare s.gens
 base:Un X.fs X.ex X.H₀ H X.s₀.heap s.heap
 loc:∃m,s.heap.Ns X.env.locals m/\∀(i:Nat) (x:Str) (v:V),X.N[i]?=some x->σ[i]?=some (some v)->Vis X.env.scope x->∃u,RelV v u/\Zrv X.env s.heap m x u
 cell:∀x c,X.env.cells.lookup x=some c->∃v,s.heap.IsCell c v
 free:H X.env.locals=none
 freeC:∀x c,X.env.cells.lookup x=some c->H c=none
 pin:∀p∈X.pn++pins,s.heap.get? p.1=some p.2/\H p.1=none/\p.1≠X.env.locals/\p.1∉X.fs/\∀v,p.2.data ≠ .cell v
 hok:HOk X.prog X.w H s.heap
 len:σ.length=X.N.length
section
variable{X:Cx}{pins:List (Addr×Obj)}{σ:List (Option V)}{H H':Hp}{s:Shared}{h':Heap}
theorem Cx.Ok.nofr(ok:X.Ok){b:Addr}{o:Obj}(e:X.base.get? b=some o):b∉X.fs:=λhb=>by
 have:=(ok.funs.mem hb).1;rw[e] at this;cases this
theorem Inv.bs(I:Inv X pins σ H s):∀b o,X.base.get? b=some o->s.heap.get? b=some o/\H b=none:=λb o e =>
 ⟨I.base.keep b o (I.ok.bs b o e).1 (I.ok.bs b o e).2 (I.ok.nofr e) (I.ok.noex b o e),I.base.free b o (I.ok.bs b o e).1 (I.ok.bs b o e).2 (I.ok.noex b o e)⟩
theorem Inv.bk(I:Inv X pins σ H s):∀b o,X.base.get? b=some o->s.heap.get? b=some o:=λb o e=>(I.bs b o e).1
theorem Inv.mod(I:Inv X pins σ H s):Mod X.K X.mg X.base:=I.ok.mod
theorem Inv.kIn(I:Inv X pins σ H s):X.K.In s.heap:=I.ok.mod.kin.keeps I.bk
theorem Inv.nolimit(I:Inv X pins σ H s):s.heap.NoLimit:=I.ok.mod.nolimit.keeps I.bk
theorem Inv.fr(I:Inv X pins σ H s):∃m,Fr X.base X.env.locals s.heap m :=
 let ⟨m,hn,_⟩:=I.loc
 ⟨m,hn,I.bk,Q0 I.ok.bsz I.ok.above⟩
theorem Inv.lt(I:Inv X pins σ H s):X.env.locals<s.heap.objs.size:=let ⟨_,hn,_⟩:=I.loc;hn.lt
theorem Inv.sz(I:Inv X pins σ H s):X.s₀.heap.objs.size<=s.heap.objs.size:=Q0 I.ok.above (Uh I.lt)
theorem Inv.nofs(I:Inv X pins σ H s){a:Addr}(h:s.heap.objs.size<=a):a∉X.fs:=λhb=>by
 obtain ⟨_,o,ho,_⟩:=I.ok.funs.mem hb;exact absurd (Q8 (Heap.lt_size ho) (Q0 I.sz h)) (Wd _)
theorem Inv.cne(I:Inv X pins σ H s):∀x c,X.env.cells.lookup x=some c->c≠X.env.locals:=λx c e z=>by
 obtain ⟨v,o,ho,hd⟩:=I.cell x c e;obtain ⟨m,⟨o',es,ep,ho',hd',_⟩,_⟩:=I.loc;rw[z,ho'] at ho;cases ho;rw[hd'] at hd;cases hd
theorem Inv.funs(I:Inv X pins σ H s):s.heap.FunFrames X.base X.outer:=by
 have all:∀(l:List Env),(∀b∈frs l,b∈X.fs)->X.s₀.heap.FunFrames X.base l->s.heap.FunFrames X.base l:=by
  intro l
  induction l with
  |nil=>intro _ _;trivial
  |cons env r ih =>
   intro hs hl;obtain ⟨hk,⟨L,o,hf,hn,ho,hd⟩,hr⟩:=hl;have hL:L∈X.fs:=hs L (by unfold frs;rw[Up,hf];exact Wj);obtain ⟨sl,e⟩:=I.base.slot L o ho (I.ok.frf L hL) hL λz=>I.ok.exfs L z hL;exact ⟨hk,⟨L,_,hf,hn,e,hd⟩,ih (λb hb=>hs b (by unfold frs;rw[Up,hf];exact Wl _ hb)) hr⟩
 exact all X.outer (λ_ hb=>hb) I.ok.funs
theorem Inv.stack(I:Inv X pins σ H s):s.heap.FunFrames X.base X.stack:=by
 rcases I.ok.stk with e|⟨e,hf⟩
 ·rw[e];exact I.funs
 ·rw[e];obtain ⟨m,hn,_⟩:=I.loc;refine .cons (by rw[I.ok.kind];decide) hf hn ?_ I.funs;exact Heap.get?_none_of_le (Q0 I.ok.bsz I.ok.above)
theorem Inv.stkSub(I:Inv X pins σ H s):∀b∈frs X.stack,b∈X.env.locals::X.fs:=λb hb=>by
 rcases I.ok.stk with e|⟨e,hf⟩
 ·rw[e] at hb;exact Wl _ hb
 ·rw[e] at hb;unfold frs at hb;rw[Up,hf] at hb;exact hb
theorem Inv.stkFree(I:Inv X pins σ H s):∀b∈frs X.stack,H b=none:=λb hb=>by
 rcases Qe.mp (I.stkSub b hb) with e|hb
 ·rw[e];exact I.free
 ·obtain ⟨_,o,ho,_⟩:=I.ok.funs.mem hb;exact I.base.free b o ho (I.ok.frf b hb) λz=>I.ok.exfs b z hb
theorem Inv.step{g':Array GenState}{t':Nat}{d':Drawn}{ch:ZZla}(I:Inv X pins σ H s)
    (hch:∀b∈ch,(b∈X.ex\/X.s₀.heap.objs.size<=b)/\b≠X.env.locals/\(∀x c,X.env.cells.lookup x=some c->c≠b)/\∀p∈X.pn++pins,p.1≠b)
    (keep:∀b o,b≠X.env.locals->b∉X.fs->b∉ch->s.heap.get? b=some o->H b=none->h'.get? b=some o)
    (slot:∀b o,b≠X.env.locals->b∈X.fs->b∉ch->s.heap.get? b=some o->H b=none->∃sl,h'.get? b=some { o with slots:=sl }) (free:∀b o,b∉ch->s.heap.get? b=some o->H b=none->H' b=none)
    (there:∀b o,b∉ch->s.heap.get? b=some o->∃o',h'.get? b=some o')
    (tups:∀b xs,H b=some (.tup xs)->H' b=some (.tup xs)) (frzs:∀b o u,H b=some (.frz o u)->H' b=some (.frz o u)) (tbls:∀b ps,H b=some (.tbl ps)->∃more,H' b=some (.tbl (ps++more)))
    (ns:∀m,s.heap.Ns X.env.locals m->h'.Ns X.env.locals m) (hok:HOk X.prog X.w H' h') (hg:AllBare g') :
    Inv X pins σ H' { s with heap:=h',gens:=g',drawn:=d',toks:=t' }:=by
  have neL:∀b o,X.s₀.heap.get? b=some o->b≠X.env.locals:=λb o e=>Qi (Q8 (Heap.lt_size e) I.ok.above);have neC:∀b o,X.s₀.heap.get? b=some o->b∉X.ex->b∉ch:=λb o e hx hb=>by
    rcases (hch b hb).1 with z | z
    · exact hx z
    · exact absurd (Q8 (Heap.lt_size e) z) (Wd _)
  have cellK:∀x c,X.env.cells.lookup x=some c->∀v,s.heap.IsCell c v->h'.IsCell c v:=λx c e v ⟨o,ho,hd⟩=>by
    have nch:c∉ch:=λz=>(hch c z).2.2.1 x c e rfl
    by_cases hc:c∈X.fs
    · obtain ⟨sl,q⟩:=slot c o (I.cne x c e) hc nch ho (I.freeC x c e)
      exact ⟨_,q,hd⟩
    · exact ⟨o,keep c o (I.cne x c e) hc nch ho (I.freeC x c e),hd⟩
  refine ⟨I.ok,I.os,hg,⟨λb o e n hb hx=>?_,λb o e n hb hx=>?_,λb o e n hx=>?_,λb o e hx=>?_,λb xs e=>tups b xs (I.base.tups b xs e),λb o xs e=>frzs b o xs (I.base.frzs b o xs e),λb ps e=>?_⟩,?_,λx c e=>?_,?_,λx c e=>?_,λp hp=>?_,hok,I.len⟩
  · exact keep b o (neL b o e) hb (neC b o e hx) (I.base.keep b o e n hb hx) (I.base.free b o e n hx)
  · obtain ⟨sl,e1⟩:=I.base.slot b o e n hb hx
    obtain ⟨sl',e2⟩:=slot b _ (neL b o e) hb (neC b o e hx) e1 (I.base.free b o e n hx);exact ⟨sl',e2⟩
  · obtain ⟨o',e1⟩:=I.base.there b o e hx
    exact free b o' (neC b o e hx) e1 (I.base.free b o e n hx)
  · obtain ⟨o',e1⟩:=I.base.there b o e hx
    exact there b o' (neC b o e hx) e1
  · obtain ⟨m1,e1⟩:=I.base.tbls b ps e
    obtain ⟨m2,e2⟩:=tbls b _ e1;exact ⟨m1++m2,by rw[e2,Array.append_assoc]⟩
  · obtain ⟨m,hn,hl⟩:=I.loc
    refine ⟨m,ns m hn,λi x v e1 e2 e3=>?_⟩;obtain ⟨u,r,l⟩:=hl i x v e1 e2 e3;refine ⟨u,r,?_⟩;rcases l with l | ⟨k,c,e,z⟩
    · exact .inl l
    · exact .inr ⟨k,c,e,cellK x c e _ z⟩
  · obtain ⟨v,z⟩:=I.cell x c e
    exact ⟨v,cellK x c e v z⟩
  · obtain ⟨m,⟨o,_,_,ho,_⟩,_⟩:=I.loc
    exact free _ o (λz=>(hch _ z).2.1 rfl) ho I.free
  · obtain ⟨v,o,ho,hd⟩:=I.cell x c e
    exact free c o (λz=>(hch c z).2.2.1 x c e rfl) ho (I.freeC x c e)
  · obtain ⟨e,n,ne,nf,d⟩:=I.pin p hp
    have nch:p.1∉ch:=λz=>(hch p.1 z).2.2.2 p hp rfl;exact ⟨keep p.1 p.2 ne nf nch e n,free p.1 p.2 nch e n,ne,nf,d⟩
theorem Inv.un{t':Nat}(I:Inv X pins σ H s)(u:Un X.fs [] H H' s.heap h')(hok:HOk X.prog X.w H' h'):Inv X pins σ H' { s with heap:=h',toks:=t' }:=by
 obtain ⟨m,⟨o,es,ep,ho,r⟩,_⟩:=id I.loc;obtain ⟨sl,hL⟩:=u.any ho I.free (by simp);exact I.step (g':=s.gens) (d':=s.drawn) (ch:=[]) (λ_ z=>nomatch z) (λb o _ hb _ e n=>u.keep b o e n hb (by simp)) (λb o _ hb _ e n=>u.slot b o e n hb (by simp)) (λb o _ e n=>u.free b o e n (by simp)) (λb o _ e=>u.there b o e (by simp)) u.tups u.frzs u.tbls (λm' hm=>by
  obtain ⟨o',es',ep',ho',r'⟩:=hm;rw[ho] at ho';cases ho';exact ⟨_,es',ep',hL,r'⟩) hok I.bare
theorem Inv.call{g':Array GenState}{t':Nat}{d':Drawn}{ch:ZZla}(I:Inv X pins σ H s)(u:Un (frs X.stack) ch H H' s.heap h')(hok:HOk X.prog X.w H' h')(hg:AllBare g')
    (hch:∀b∈ch,(b∈X.ex\/X.s₀.heap.objs.size<=b)/\b≠X.env.locals/\(∀x c,X.env.cells.lookup x=some c->c≠b)/\∀p∈X.pn++pins,p.1≠b) :
    Inv X pins σ H' { s with heap:=h',gens:=g',drawn:=d',toks:=t' }:=by
  obtain ⟨m,⟨o,es,ep,ho,r⟩,_⟩:=id I.loc;obtain ⟨sl,hL⟩:=u.any ho I.free λz=>(hch _ z).2.1 rfl;exact I.step (ch:=ch) hch (λb o hL hb hc e n=>u.keep b o e n (λz=>(Qe.mp (I.stkSub b z)).elim hL hb) hc) (λb o _ _ hc e n=>u.any e n hc) (λb o hc e n=>u.free b o e n hc) (λb o hc e=>u.there b o e hc) u.tups u.frzs u.tbls (λm' hm=>by
    obtain ⟨o',es',ep',ho',r'⟩:=hm;rw[ho] at ho'; cases ho';exact ⟨_,es',ep',hL,r'⟩) hok hg
theorem Inv.turned{t':Nat}{it:Addr}(I:Inv X pins σ H s)(k:∀b o,b≠it->s.heap.get? b=some o->h'.get? b=some o)(hn:H it=none)(hL:it≠X.env.locals)
    (h1:it∈X.ex\/X.s₀.heap.objs.size<=it) (h2:∀x c,X.env.cells.lookup x=some c->c≠it) (h3:∀p∈X.pn++pins,p.1≠it):Inv X pins σ H { s with heap:=h',toks:=t' }:=by
  have nit:∀b u,H b=some u->b≠it:=λb u e z=>by rw[z,hn] at e; cases e
  refine I.step (g':=s.gens) (d':=s.drawn) (ch:=[it]) (λb hb=>?_) (λb o _ _ hc e _=>k b o (λz=>hc (by simp[z])) e) (λb o _ _ hc e _=>⟨o.slots,k b o (λz=>hc (by simp[z])) e⟩) (λ_ _ _ _ n=>n)
    (λb o hc e=>⟨o,k b o (λz=>hc (by simp[z])) e⟩) (λ_ _ e=>e) (λ_ _ _ e=>e) (λb ps e=>⟨#[],by rw[e]; simp⟩) (λm hm=>?_) (λb u e=>?_) I.bare
  · have e:b=it:=by simpa using hb
    subst e;exact ⟨h1,hL,h2,h3⟩
  · obtain ⟨o,es,ep,ho,r⟩:=hm
    exact ⟨o,es,ep,k _ o (Ne.symm hL) ho,r⟩
  · refine (I.hok b u e).stay (λc v hc q=>k c v ?_ q) (λ_ q=>q) λ_ _ q=>q
    rcases hc with z | z
    · rw[z]; exact nit b u e
    · exact nit c _ z
theorem Inv.tok(I:Inv X pins σ H s)(t:Nat):Inv X pins σ H { s with toks:=t }:=I.un (h':=s.heap) (t':=t) Un.refl I.hok
theorem Inv.kept{t':Nat}(I:Inv X pins σ H s)(k:∀b u,s.heap.get? b=some u->h'.get? b=some u):Inv X pins σ H { s with heap:=h',toks:=t' }:=I.un (Un.kept k) (I.hok.kept k)
theorem Inv.laid{a:Addr}{o:HO}{t':Nat}(I:Inv X pins σ H s)(k:∀b u,s.heap.get? b=some u->h'.get? b=some u)(hp:s.heap.objs.size<=a)(new:ObjOk X.prog X.w (upd H a o) h' a o) :
    Inv X pins σ (upd H a o) { s with heap:=h',toks:=t' }:=I.un (Un.laid k hp (I.hok.fresh hp)) (I.hok.laid k hp new)
theorem Inv.write{x e:Addr}{o:HO}{t':Nat}(I:Inv X pins σ H s)(mu:Mut (H x))(he:e=x\/H e=some (.own x))(k:∀b u,b≠e->s.heap.get? b=some u->h'.get? b=some u)(heo:∃u,h'.get? e=some u)
    (new:ObjOk X.prog X.w (upd H x o) h' x o):Inv X pins σ (upd H x o) { s with heap:=h',toks:=t' }:=I.un (Un.write mu he k heo) (I.hok.write mu he k heo new)
theorem Inv.weak{σ':List (Option V)}(I:Inv X pins σ H s)(hl:σ'.length=σ.length)(w:∀(i:Nat) v,σ'[i]?=some (some v)->σ[i]?=some (some v)):Inv X pins σ' H s :=
 ⟨I.ok,I.os,I.bare,I.base,let ⟨m,hn,hl'⟩:=I.loc;⟨m,hn,λi x v e1 e2 e3=>hl' i x v e1 (w i v e2) e3⟩,I.cell,I.free,I.freeC,I.pin,I.hok,hl.trans I.len⟩
theorem Inv.pins_of{pins':List (Addr×Obj)}(I:Inv X pins σ H s)(h:∀p∈pins',s.heap.get? p.1=some p.2/\H p.1=none/\p.1≠X.env.locals/\p.1∉X.fs/\∀v,p.2.data ≠ .cell v):Inv X pins' σ H s :=
 ⟨I.ok,I.os,I.bare,I.base,I.loc,I.cell,I.free,I.freeC,λp hp=>(Qx.mp hp).elim (λz=>I.pin p (List.mem_append_left _ z)) (h p),I.hok,I.len⟩
theorem ZiX{N:List Str}(hN:N.Nodup){i j:Nat}{x:Str}(a:N[i]?=some x)(b:N[j]?=some x):i=j:=by
 obtain ⟨h1,e1⟩:=Qo.mp a;obtain ⟨h2,e2⟩:=Qo.mp b;exact (List.getElem_inj hN).mp (e1.trans e2.symm)
theorem Zhe{M:Model}{A:Around}{E:Value->Shared->Prop}{i:Nat}{x:Str}{v:V}{u:Value}{Q:Unit->Shared->Prop}(I:Inv X pins σ H s)(hN:X.N.Nodup)(hi:X.N[i]?=some x)(hx:Loc X.env.scope x)(r:RelV v u)
    (h:∀s',Inv X pins (σ.set i (some v)) H s'->(∃a,Heap.SameBut a s.heap s'.heap/\(a=X.env.locals\/X.env.cells.lookup x=some a))->Q () s') (hf:X.fn x=true\/X.env.scope.names.lookup x=some .local:=by first | exact .inl rfl | exact .inr rfl | assumption):wpAny M A (storeName X.env x u) Q E s:=by
  obtain ⟨m,hn,hl⟩:=id I.loc;have hcls:(X.env.scope.kind == .class||(X.env.scope.kind == .module&&X.env.locals != X.env.globals))=false:=by rw[I.ok.kind]; rfl
  have hiσ:i<σ.length:=by rw[I.len]; exact (Qo.mp hi).1
  have cne:=I.cne;have tracked:∀ {a:Addr} {h':Heap},(∃o,s.heap.get? a=some o/\H a=none)->Heap.SameBut a s.heap h'->HOk X.prog X.w H h':=fun {a h'} ha hs b ob e=>by
    obtain ⟨_,_,hfree⟩:=ha;refine (I.hok b ob e).stay (λc w' hc q=>(hs.2 c ?_).trans q) (λ_ q=>q) λ_ _ q=>q;rintro rfl;rcases hc with rfl | hc
    · rw[hfree] at e; cases e
    · rw[hfree] at hc; cases hc
  rcases hx with hk | hk
  · refine wpAny_storeName_local hk hn (λh' hn' hs=>?_) hcls
    obtain ⟨oL,_,_,hoL,_⟩:=id hn;refine h _ ⟨I.ok,I.os,I.bare,⟨λb o e n hb hx=>?_,λb o e n hb hx=>?_,I.base.free,λb o e hx=>?_,I.base.tups,I.base.frzs,I.base.tbls⟩,⟨_,hn',λj y v' e1 e2 e3=>?_⟩,λy c e=>?_,I.free,I.freeC,λp hp=>?_,tracked ⟨oL,hoL,I.free⟩ hs,by simpa using I.len⟩ ⟨_,hs,.inl rfl⟩
    · exact (hs.2 b (Qi (Q8 (Heap.lt_size e) I.ok.above))).trans (I.base.keep b o e n hb hx)
    · obtain ⟨sl,e1⟩:=I.base.slot b o e n hb hx
      exact ⟨sl,(hs.2 b (Qi (Q8 (Heap.lt_size e) I.ok.above))).trans e1⟩
    · obtain ⟨o',e1⟩:=I.base.there b o e hx
      exact ⟨o',(hs.2 b (Qi (Q8 (Heap.lt_size e) I.ok.above))).trans e1⟩
    · by_cases hj:j=i
      · subst hj
        rw[hi] at e1; cases e1;rw[List.getElem?_set_self hiσ] at e2
        cases e2
        exact ⟨u,r,.inl ⟨hk,by simp⟩⟩
      · rw[List.getElem?_set_ne (Ne.symm hj)] at e2
        obtain ⟨u',r',q⟩:=hl j y v' e1 e2 e3;refine ⟨u',r',?_⟩;rcases q with ⟨k,e⟩ | ⟨k,c,e,z⟩
        · refine .inl ⟨k,?_⟩
          have:y≠x:=λe=>hj (ZiX hN e1 (e ▸ hi))
          simp[this,e]
        · exact .inr ⟨k,c,e,z.sameBut hs (cne y c e)⟩
    · obtain ⟨w',z⟩:=I.cell y c e
      exact ⟨w',z.sameBut hs (cne y c e)⟩
    · obtain ⟨e,n,ne,nf,d⟩:=I.pin p hp
      exact ⟨(hs.2 p.1 ne).trans e,n,ne,nf,d⟩
  · have hfn:X.fn x=true:=by
      rcases hf with z | z
      · exact z
      · rw[z] at hk; cases hk
    obtain ⟨c,hc⟩:=I.ok.has x (.inl hk);obtain ⟨w',z⟩:=I.cell x c hc;refine wpAny_storeName_cell I.ok.kind hk hc z (λh' hc' hs=>?_);obtain ⟨oc,hoc,hocd⟩:=id z;refine h { s with heap:=h' } ⟨I.ok,I.os,I.bare,⟨λb o e n hb hx=>?_,λb o e n hb hx=>?_,I.base.free,λb o e hx=>?_,I.base.tups,I.base.frzs,I.base.tbls⟩,⟨m,hn.sameBut hs (Ne.symm (cne x c hc)),λj y v' e1 e2 e3=>?_⟩,λy c' e=>?_,I.free,I.freeC,λp hp=>?_,tracked ⟨oc,hoc,I.freeC x c hc⟩ hs,by simpa using I.len⟩ ⟨c,hs,.inr hc⟩
    · exact (hs.2 b (Qi (Q8 (Heap.lt_size e) (I.ok.cab x c hfn hc)))).trans (I.base.keep b o e n hb hx)
    · obtain ⟨sl,e1⟩:=I.base.slot b o e n hb hx
      exact ⟨sl,(hs.2 b (Qi (Q8 (Heap.lt_size e) (I.ok.cab x c hfn hc)))).trans e1⟩
    · obtain ⟨o',e1⟩:=I.base.there b o e hx
      exact ⟨o',(hs.2 b (Qi (Q8 (Heap.lt_size e) (I.ok.cab x c hfn hc)))).trans e1⟩
    · by_cases hj:j=i
      · subst hj
        rw[hi] at e1; cases e1;rw[List.getElem?_set_self hiσ] at e2
        cases e2
        exact ⟨u,r,.inr ⟨.inl hk,c,hc,hc'⟩⟩
      · rw[List.getElem?_set_ne (Ne.symm hj)] at e2
        obtain ⟨u',r',q⟩:=hl j y v' e1 e2 e3;refine ⟨u',r',?_⟩;rcases q with q | ⟨k,c',e,z'⟩
        · exact .inl q
        · refine .inr ⟨k,c',e,z'.sameBut hs ?_⟩
          rintro rfl;exact hj (ZiX hN e1 (I.ok.inj _ _ _ e hc ▸ hi))
    · by_cases hcc:c'=c
      · subst hcc; exact ⟨_,hc'⟩
      · obtain ⟨w2,z2⟩:=I.cell y c' e
        exact ⟨w2,z2.sameBut hs hcc⟩
    · obtain ⟨e,n,ne,nf,d⟩:=I.pin p hp
      refine ⟨(hs.2 p.1 ?_).trans e,n,ne,nf,d⟩;intro q;rw[q,hoc] at e;have q':oc=p.2:=Option.some.inj e;exact d w' (by rw[<-q']; exact hocd)
theorem Zdh{M:Model}{A:Around}{E:Value->Shared->Prop}{i:Nat}{x:Str}{v:V}{u:Value}{Q:Unit->Shared->Prop}(I:Inv X pins σ H s)(hN:X.N.Nodup)(hi:X.N[i]?=some x)(hx:Loc X.env.scope x)(r:RelV v u)
    (h:∀s',Inv X pins (σ.set i (some v)) H s'->Q () s') (hf:X.fn x=true\/X.env.scope.names.lookup x=some .local:=by first | exact .inl rfl | exact .inr rfl | assumption):wpAny M A (storeName X.env x u) Q E s :=
  Zhe I hN hi hx r (λs' I' _=>h s' I') hf
theorem Inv.call'{s':Shared}{ch:ZZla}(I:Inv X pins σ H s)(ho:s'.os=s.os)(u:Un (frs X.stack) ch H H' s.heap s'.heap)(hok:HOk X.prog X.w H' s'.heap)(hg:AllBare s'.gens)
    (hch:∀b∈ch,(b∈X.ex\/X.s₀.heap.objs.size<=b)/\b≠X.env.locals/\(∀x c,X.env.cells.lookup x=some c->c≠b)/\∀p∈X.pn++pins,p.1≠b):Inv X pins σ H' s':=by
  obtain ⟨h',g',d',t',o'⟩:=s';have e:o'=s.os:=ho;subst e;exact I.call (g':=g') (t':=t') (d':=d') u hok hg hch
end
abbrev XK:=Value->Option Addr->Hp->Prop
abbrev St:=List (Option V)
abbrev VK:=V->Hp->Prop
abbrev TE:=St->Hp->VK->Prop
abbrev TT:=St->Hp->(Bool->Hp->Prop)->Prop
abbrev TA:=St->Hp->(List V->Hp->Prop)->Prop
structure Ends where
 nx:St->Hp->Prop
 rt:VK
 bk:St->Hp->Prop:=λ_ _=>False
 ct:St->Hp->Prop:=λ_ _=>False
abbrev TS:=Ends->St->Hp->Prop
def EP(X:Cx)(pins:List (Addr×Obj))(σ:St)(Q:VK)(u:Value)(s':Shared):Prop:=∃v H',Inv X pins σ H' s'/\RelV v u/\Q v H'
def TP(X:Cx)(pins:List (Addr×Obj))(σ:St)(Q:Bool->Hp->Prop)(b:Bool)(s':Shared):Prop:=∃H',Inv X pins σ H' s'/\Q b H'
def AP(X:Cx)(pins:List (Addr×Obj))(σ:St)(Q:List V->Hp->Prop)(us:List Value)(s':Shared):Prop:=∃vs H',Inv X pins σ H' s'/\Vals vs us/\Q vs H'
def SP(X:Cx)(pins:List (Addr×Obj))(D:Ends)(f:Flow)(s':Shared):Prop :=
 match f with
 | .next=>∃σ' H',Inv X pins σ' H' s'/\D.nx σ' H'
 | .brk=>∃σ' H',Inv X pins σ' H' s'/\D.bk σ' H'
 | .cont=>∃σ' H',Inv X pins σ' H' s'/\D.ct σ' H'
 | .ret u=>∃v σ' H',Inv X pins σ' H' s'/\RelV v u/\D.rt v H'
def PE(X:Cx)(e:Expr)(t:TE):Prop :=
 ∀(pins:List (Addr×Obj)) (s:Shared) (σ:St) (H:Hp) (Q:VK),Inv X pins σ H s->t σ H Q->wpAny (model X.prog X.w) X.A (eval e X.env) (EP X pins σ Q) X.xe s
def PT(X:Cx)(e:Expr)(t:TT):Prop :=
 ∀(pins:List (Addr×Obj)) (s:Shared) (σ:St) (H:Hp) (Q:Bool->Hp->Prop),Inv X pins σ H s->t σ H Q->wpAny (model X.prog X.w) X.A (isTrue e X.env (eval e X.env)) (TP X pins σ Q) X.xe s
def PW(X:Cx)(e:Expr)(t:TT):Prop :=
 ∀(whole:Sem Value) (pins:List (Addr×Obj)) (s:Shared) (σ:St) (H:Hp) (Q:Bool->Hp->Prop),Inv X pins σ H s->t σ H Q->wpAny (model X.prog X.w) X.A (isTrue e X.env whole) (TP X pins σ Q) X.xe s
theorem PW.pt{X:Cx}{e:Expr}{t:TT}(h:PW X e t):PT X e t:=h _
def PA(X:Cx)(es:List Expr)(t:TA):Prop :=
 ∀(pos:Pos) (pins:List (Addr×Obj)) (s:Shared) (σ:St) (H:Hp) (Q:List V->Hp->Prop),Inv X pins σ H s->t σ H Q->wpAny (model X.prog X.w) X.A (spliced (backTo pos (starEach es X.env))) (AP X pins σ Q) X.xe s
def PS(X:Cx)(st:Stmt)(t:TS):Prop :=
 ∀(pins:List (Addr×Obj)) (s:Shared) (σ:St) (H:Hp) (D:Ends),Inv X pins σ H s->t D σ H->wpAny (model X.prog X.w) X.A (exec st X.env) (SP X pins D) X.xe s
def PSs(X:Cx)(st:List Stmt)(t:TS):Prop :=
 ∀(pins:List (Addr×Obj)) (s:Shared) (σ:St) (H:Hp) (D:Ends),Inv X pins σ H s->t D σ H->wpAny (model X.prog X.w) X.A (execs st X.env) (SP X pins D) X.xe s
theorem thn{α:Type}{t:Sem α}{Q Q':α->Shared->Prop}{M:Model}{A:Around}{E:Value->Shared->Prop}{s:Shared}(h:wpAny M A t Q E s)(hQ:∀a s,Q a s->Q' a s):wpAny M A t Q' E s:=wpAny_mono h hQ λ_ _ x=>x
section
variable{X:Cx}
theorem bin{a b:Expr}{ta tb:TE}(ha:PE X a ta)(hb:PE X b tb){pins:List (Addr×Obj)}{s:Shared}{σ:St}{H:Hp}{R:V->V->Hp->Prop}(I:Inv X pins σ H s)(h:ta σ H λx H1=>tb σ H1 λy H2=>R x y H2)
    {α:Type} {Q:α->Shared->Prop} {f:Value->Value->Sem α}
    (hf:∀v u s2 x y H2,Inv X pins σ H2 s2->RelV x v->RelV y u->R x y H2->wpAny (model X.prog X.w) X.A (f v u) Q X.xe s2) :
    wpAny (model X.prog X.w) X.A (eval a X.env) (λv s₁=>wpAny (model X.prog X.w) X.A (eval b X.env) (λu s₂=>wpAny (model X.prog X.w) X.A (f v u) Q X.xe s₂) X.xe s₁) X.xe s:=by
  refine thn (ha pins s σ H _ I h) λv s1 ⟨x,H1,I1,r1,q1⟩=>?_;refine thn (hb pins s1 σ H1 _ I1 q1) λu s2 ⟨y,H2,I2,r2,q2⟩=>?_;exact hf v u s2 x y H2 I2 r1 r2 q2
inductive ZqF (i:Nat) (σ:St) (H:Hp) (Q:VK):Prop
 |mk (v:V) (_:σ[i]?=some (some v)) (_:Q v H):ZqF i σ H Q
def tC(v:V):TE:=λ_ H Q=>Q v H
theorem Zpo{i:Nat}{x:Str}{pos:Pos}(hN:X.N[i]?=some x)(hv:Vis X.env.scope x)(hd:(x==("__debug__":Str))=false:=by decide) (hcd:(x==("__classdict__":Str))=false:=by decide):PE X (.Name x pos) (ZqF i):=by
 intro pins s σ H Q I h;obtain ⟨v,e,h⟩:=h;obtain ⟨m,hn,hl⟩:=I.loc;obtain ⟨u,r,l⟩:=hl i x v hN e hv;have fin:EP X pins σ Q u s:=⟨v,H,I,r,h⟩;rcases l with ⟨hk,hm⟩|⟨hk,c,hc,hcell⟩
 ·exact wpAny_Name (wpAny_loadName_local I.ok.kind hk hn hm fin) hd
 ·rcases hk with hk|hk
  ·exact wpAny_Name (wpAny_loadName_cell I.ok.kind hk hc hcell fin) hd
  ·exact wpAny_Name (wpAny_loadName_free I.ok.kind hk hc hcell fin hcd) hd
theorem Zad{i j pos}:PE X (.Constant (.int i) j pos) (tC (.int i)):=λ_ _ _ H _ I h=>wpAny_Constant_int ⟨.int i,H,I.tok _,⟨_,rfl⟩,h⟩
theorem Zdr{b j pos}:PE X (.Constant (.bool b) j pos) (tC (.bl b)):=λ_ _ _ H _ I h=>Constant_bool ⟨.bl b,H,I,rfl,h⟩
theorem ZiY{j pos}:PE X (.Constant .none j pos) (tC .non):=λ_ _ _ H _ I h=>Constant_none ⟨.non,H,I,rfl,h⟩
theorem ZeK{x j pos}:PE X (.Constant (.str x) j pos) (tC (.str x)):=λ_ _ _ H _ I h=>Calls.Constant_str ⟨.str x,H,I.tok _,⟨_,rfl⟩,h⟩
def Gl(X:Cx)(x:Str):Prop:=X.env.kindOf x=some .globalImplicit
theorem Zdy{E:Value->Shared->Prop}{pins:List (Addr×Obj)}{s:Shared}{σ:St}{H:Hp}{x:Str}{u:Value}{pos:Pos}{Q:Value->Shared->Prop}(I:Inv X pins σ H s)(hg:Gl X x)(hm:X.mg x=some u)(h:Q u s)
    (hd:(x==("__debug__" : Str))=false:=by decide):wpAny (model X.prog X.w) X.A (eval (.Name x pos) X.env) Q E s :=
  Calls.Name_function_global I.ok.kind hg (Calls.loadGlobal_global (by rw[I.ok.glob]; exact I.mod.glob.keeps I.bk) hm h) hd
theorem Zdu{E:Value->Shared->Prop}{pins:List (Addr×Obj)}{s:Shared}{σ:St}{H:Hp}{x:Str}{u:Value}{pos:Pos}{Q:Value->Shared->Prop}(I:Inv X pins σ H s)(hg:Gl X x)(hm:X.mg x=none)(hv:bootBuiltins x=some u)(h:Q u s)
    (hn:x ≠ "__name__" := by decide) (hd:(x==("__debug__" : Str))=false:=by decide):wpAny (model X.prog X.w) X.A (eval (.Name x pos) X.env) Q E s:=by
  obtain ⟨mb,h1,h2⟩:=I.mod.blt;exact Calls.Name_function_global I.ok.kind hg (Calls.loadGlobal_builtin (by rw[I.ok.glob]; exact I.mod.glob.keeps I.bk) hm (by rw[I.ok.blt]; exact h1.keeps I.bk) ((h2 x hn).trans hv) h) hd
theorem Zcv{x:Str}{v:V}{u:Value}{pos:Pos}(hg:Gl X x)(hm:X.mg x=some u)(r:RelV v u)(hd:(x==("__debug__":Str))=false:=by decide):PE X (.Name x pos) (tC v) :=
 λ_ _ _ H _ I h=>Zdy I hg hm ⟨v,H,I,r,h⟩ hd
theorem Zn6{x:Str}{v:V}{u:Value}{pos:Pos}(hg:Gl X x)(hm:X.mg x=none)(hv:bootBuiltins x=some u)(r:RelV v u)(hn:x ≠"__name__":= by decide) (hd:(x==("__debug__":Str))=false:=by decide):PE X (.Name x pos) (tC v) :=
 λ_ _ _ H _ I h=>Zdu I hg hm hv ⟨v,H,I,r,h⟩ hn hd
variable{a b:Expr}{ta tb:TE}{pos:Pos}
def PC(X:Cx)(op:CmpOp)(a b:Expr)(t:TE):Prop :=
 ∀(pins:List (Addr×Obj)) (s:Shared) (σ:St) (H:Hp) (Q:VK),Inv X pins σ H s->t σ H Q →
  wpAny (model X.prog X.w) X.A (eval a X.env) (λv s₁=>wpAny (model X.prog X.w) X.A (eval b X.env) (λu s₂=>wpAny (model X.prog X.w) X.A (compareOp op v u) (EP X pins σ Q) X.xe s₂) X.xe s₁) X.xe s
theorem Zmd(b:Expr){op:CmpOp}(h:op ≠ .In)(h2:op ≠ .NotIn):behindInMarks op b=false:=by
 have e1:(op==CmpOp.In)=false:=by cases op <;> first|rfl|exact absurd rfl h
 have e2:(op==CmpOp.NotIn)=false:=by cases op <;> first|rfl|exact absurd rfl h2
 cases b <;> simp[behindInMarks,e1,e2]
inductive tB_ (x:V) (Q:Bool->Hp->Prop) (H1:Hp):Prop
 |mk (c:Bool) (_:x = .bl c) (_:Q c H1):tB_ x Q H1
def tB(t:TE):TT:=λσ H Q=>t σ H λx H1=>tB_ x Q H1
theorem Zrw{op:CmpOp}{t:TE}(h:PC X op a b t)(h1:behindInMarks op b=false:=by first|exact Zmd _ ∅ ∅ |rfl):PT X (.Compare a [op] [b] pos) (tB t):=by
 intro pins s σ H Q I hw;refine wpAny_isTrue_Compare1 (thn (h pins s σ H _ I hw) λv s1 h1=>thn h1 λu s2 h2=>thn h2 λc s3 ⟨x,H1,I1,r1,q1⟩=>?_) h1;obtain ⟨d,rfl,q⟩:=q1
 cases r1
 exact wpAny_truthy_bool ⟨H1,I1,q⟩
theorem ZaF{e:Expr}{t:TE}(h:PE X e t)(he:∀whole,isTrue e X.env whole=(do let v ← whole;standAt e.pos;holding [v] (truthy v)):=by intro _;rfl):PT X e (tB t):=by
 intro pins s σ H Q I hw;refine isTrue_plain (thn (h pins s σ H _ I hw) λv s1 ⟨x,H1,I1,r1,q1⟩=>?_) (he _);obtain ⟨d,rfl,q⟩:=q1
 cases r1
 exact wpAny_truthy_bool ⟨H1,I1,q⟩
variable{tA tB':TT}{ZjC:List Expr}
def ZrS(t u:TT):TT:=λσ H Q=>t σ H λc H1=>if c=true then u σ H1 Q else Q false H1
def tOr(t u:TT):TT:=λσ H Q=>t σ H λc H1=>if c=true then Q true H1 else u σ H1 Q
def ZrT(t:TT):TT:=λσ H Q=>t σ H λc H1=>Q (!c) H1
theorem Zh3(ha:PT X a tA):PW X (.BoolOp .And [a] pos) tA:=by
 intro wh pins s σ H Q I h;refine isTrue_and (thn (ha pins s σ H Q I h) λc s1 e=>?_)
 cases c with
 |true=>exact isTrue_and_nil e
 |false=>exact e
theorem ZcT(ha:PT X a tA):PW X (.BoolOp .Or [a] pos) tA:=by
 intro wh pins s σ H Q I h;refine isTrue_or (thn (ha pins s σ H Q I h) λc s1 e=>?_)
 cases c with
 |false=>exact isTrue_or_nil e
 |true=>exact e
theorem Zkj(ha:PT X a tA)(hb:PW X (.BoolOp .And (b::ZjC) pos) tB'):PW X (.BoolOp .And (a::b::ZjC) pos) (ZrS tA tB'):=by
 intro wh pins s σ H Q I h;refine isTrue_and (thn (ha pins s σ H _ I h) λc s1 ⟨H1,I1,q1⟩=>?_)
 cases c with
 |true=>exact hb wh pins s1 σ H1 Q I1 q1
 |false=>exact ⟨H1,I1,q1⟩
theorem Zcw(ha:PT X a tA)(hb:PW X (.BoolOp .Or (b::ZjC) pos) tB'):PW X (.BoolOp .Or (a::b::ZjC) pos) (tOr tA tB'):=by
 intro wh pins s σ H Q I h;refine isTrue_or (thn (ha pins s σ H _ I h) λc s1 ⟨H1,I1,q1⟩=>?_)
 cases c with
 |true=>exact ⟨H1,I1,q1⟩
 |false=>exact hb wh pins s1 σ H1 Q I1 q1
theorem Zb6(ha:PT X a tA):PT X (.UnaryOp .Not a pos) (ZrT tA):=by
 intro pins s σ H Q I h;exact isTrue_not (ha pins s σ H (λc H1=>Q (!c) H1) I h)
def ZqG(ta tb:TE):TE:=λσ H Q=>ta σ H λx H1=>∃c,x = .bl c/\if c=true then tb σ H1 Q else Q (.bl false) H1
def ZrU(ta tb:TE):TE:=λσ H Q=>ta σ H λx H1=>∃c,x = .bl c/\if c=true then Q (.bl true) H1 else tb σ H1 Q
def ZqH(ta:TE):TE:=λσ H Q=>ta σ H λx H1=>∃c,x = .bl c/\Q (.bl (!c)) H1
theorem Zf9{op}{t:TE}(h:PE X a t):PE X (.BoolOp op [a] pos) t:=λpins s σ H Q I hw=>BoolOp_one (h pins s σ H Q I hw)
theorem Zhf(ha:PE X a ta)(hb:PE X (.BoolOp .And (b::ZjC) pos) tb):PE X (.BoolOp .And (a::b::ZjC) pos) (ZqG ta tb):=by
 intro pins s σ H Q I h;refine BoolOp_and (thn (ha pins s σ H _ I h) λv s1 ⟨x,H1,I1,r1,q1⟩=>?_);obtain ⟨c,rfl,q1⟩:=q1
 cases r1
 refine wpAny_truthy_bool ?_
 cases c with
 |true=>exact hb pins s1 σ H1 Q I1 q1
 |false=>exact ⟨.bl false,H1,I1,rfl,q1⟩
theorem ZqI(ha:PE X a ta)(hb:PE X (.BoolOp .Or (b::ZjC) pos) tb):PE X (.BoolOp .Or (a::b::ZjC) pos) (ZrU ta tb):=by
 intro pins s σ H Q I h;refine BoolOp_or (thn (ha pins s σ H _ I h) λv s1 ⟨x,H1,I1,r1,q1⟩=>?_);obtain ⟨c,rfl,q1⟩:=q1
 cases r1
 refine wpAny_truthy_bool ?_
 cases c with
 |false=>exact hb pins s1 σ H1 Q I1 q1
 |true=>exact ⟨.bl true,H1,I1,rfl,q1⟩
theorem Znm(ha:PE X a ta):PE X (.UnaryOp .Not a pos) (ZqH ta):=by
 intro pins s σ H Q I h;refine UnaryOp_ (thn (ha pins s σ H _ I h) λv s1 ⟨x,H1,I1,r1,q1⟩=>?_);obtain ⟨c,rfl,q1⟩:=q1
 cases r1
 exact not_of (wpAny_truthy_bool ⟨.bl (!c),H1,I1,rfl,q1⟩)
end
def SqL(K:ZZfg)(H:Hp)(a:Addr)(xs:List V):Prop :=
 Rd H a (.lst xs) ∨
  ∃(o:Obj) (its:Array Value) (n:Nat),K.lookup a=some o/\o.cls = .type "list" /\ o.dict=none/\o.data = .seq its n/\its.size<=sizeLine/\Vals xs its.toList
def SqT(K:ZZfg)(H:Hp)(a:Addr)(xs:List V):Prop :=
 Rd H a (.tup xs) ∨
  ∃(o:Obj) (its:Array Value) (n:Nat),K.lookup a=some o/\o.cls = .type "tuple" /\ o.data = .seq its n/\its.size<=sizeLine/\Vals xs its.toList
def ZrV:Value->Option V
 | .none=>some .non
 | .bool b=>some (.bl b)
 | .int i _=>some (.int i)
 | .str x _=>some (.str x)
 | .bytes b _=>some (.byt b)
 | .float b _=>some (.flt b)
 | .ref a=>some (.ref a)
 | .type n=>some (.ty n)
 |_=>none
theorem RelV.abs{x:V}{u:Value}(r:RelV x u):ZrV u=some x:=by
 cases x with
 |non=>cases r;rfl
 |bl _=>cases r;rfl
 |int _=>obtain ⟨t,rfl⟩:=r;rfl
 |str _=>obtain ⟨t,rfl⟩:=r;rfl
 |byt _=>obtain ⟨t,rfl⟩:=r;rfl
 |flt _=>obtain ⟨t,rfl⟩:=r;rfl
 |ref _=>cases r;rfl
 |ty _=>cases r;rfl
theorem RelV.inj{x y:V}{u:Value}(r:RelV x u)(q:RelV y u):x=y:=Option.some.inj (r.abs.symm.trans q.abs)
theorem Vals.inj:∀ {xs ys:List V} {us:List Value},Vals xs us->Vals ys us->xs=ys
 |_,_,_,.nil,.nil=>rfl
 |_,_,_,.cons r t,.cons r' t'=>by rw[r.inj r',Vals.inj t t']
section
variable{X:Cx}{pins:List (Addr×Obj)}{σ:St}{H:Hp}{s:Shared}{a:Addr}{xs ys:List V}
theorem SqL.of{K:ZZfg}(h:H a=some (.lst xs)):SqL K H a xs:=.inl (.inl h)
theorem SqT.of{K:ZZfg}(h:H a=some (.tup xs)):SqT K H a xs:=.inl (.inl h)
theorem Inv.list(I:Inv X pins σ H s)(h:SqL X.K H a xs):∃its:List Value,Vals xs its/\PlainL s.heap a its.toArray/\xs.length<=sizeLine:=by
 rcases h with h|⟨o,its,n,hk,hc,hd,hs,hz,r⟩
 ·obtain ⟨z,its,n,r,e⟩:=h.ok I.hok;exact ⟨its,r,⟨_,n,e,rfl,rfl,rfl⟩,z⟩
 ·refine ⟨its.toList,r,⟨o,n,I.kIn a o hk,hc,hd,by simpa using hs⟩,?_⟩;have e:=r.length
  simp only[Array.length_toList] at e
  omega
theorem Inv.tuple(I:Inv X pins σ H s)(h:SqT X.K H a xs):∃its:List Value,Vals xs its/\IsTup s.heap a its.toArray/\xs.length<=sizeLine:=by
 rcases h with h|⟨o,its,n,hk,hc,hs,hz,r⟩
 ·obtain ⟨z,its,r,p⟩:=h.ok I.hok;exact ⟨its,r,p,z⟩
 ·refine ⟨its.toList,r,⟨o,I.kIn a o hk,hc,n,by simpa using hs⟩,?_⟩;have e:=r.length
  simp only[Array.length_toList] at e
  omega
theorem Inv.list_inj(I:Inv X pins σ H s)(h:SqL X.K H a xs)(h':SqL X.K H a ys):xs=ys:=by
 obtain ⟨its,r,⟨o,n,e,_,_,d⟩,_⟩:=I.list h;obtain ⟨its',r',⟨o',n',e',_,_,d'⟩,_⟩:=I.list h';rw[e] at e';cases e';rw[d] at d'
 injection d' with d1 _
 have:its=its':=by simpa using congrArg Array.toList d1
 subst this;exact r.inj r'
theorem Inv.tuple_inj(I:Inv X pins σ H s)(h:SqT X.K H a xs)(h':SqT X.K H a ys):xs=ys:=by
 obtain ⟨its,r,⟨o,e,_,n,d⟩,_⟩:=I.tuple h;obtain ⟨its',r',⟨o',e',_,n',d'⟩,_⟩:=I.tuple h';rw[e] at e';cases e';rw[d] at d'
 injection d' with d1 _
 have:its=its':=by simpa using congrArg Array.toList d1
 subst this;exact r.inj r'
end
abbrev Cx.wish(X:Cx)(E:Value->Shared->Prop):Cx:={ X with xe:=E }
abbrev Cx.nox(X:Cx):Cx:=X.wish λ_ _=>False
theorem Cx.Ok.wish{X:Cx}(ok:X.Ok)(E:Value->Shared->Prop):(X.wish E).Ok :=
 ⟨ok.mod,ok.kind,ok.glob,ok.blt,ok.above,ok.inj,ok.has,ok.cab,ok.hd,ok.frames,ok.stk,ok.exf,ok.bs,ok.bsz,ok.noex,ok.exfs,ok.funs,ok.frf⟩
theorem Cx.Ok.unwish{X:Cx}{E:Value->Shared->Prop}(ok:(X.wish E).Ok):X.Ok :=
 ⟨ok.mod,ok.kind,ok.glob,ok.blt,ok.above,ok.inj,ok.has,ok.cab,ok.hd,ok.frames,ok.stk,ok.exf,ok.bs,ok.bsz,ok.noex,ok.exfs,ok.funs,ok.frf⟩
section
variable{X:Cx}{pins:List (Addr×Obj)}{σ:St}{H:Hp}{s:Shared}{E:Value->Shared->Prop}
theorem Inv.wish(I:Inv X pins σ H s)(E:Value->Shared->Prop):Inv (X.wish E) pins σ H s:=⟨I.ok.wish E,I.os,I.bare,I.base,I.loc,I.cell,I.free,I.freeC,I.pin,I.hok,I.len⟩
theorem Inv.unwish(I:Inv (X.wish E) pins σ H s):Inv X pins σ H s:=⟨I.ok.unwish,I.os,I.bare,I.base,I.loc,I.cell,I.free,I.freeC,I.pin,I.hok,I.len⟩
theorem SP.unwish{D:Ends}{f:Flow}{s':Shared}(h:SP (X.wish E) pins D f s'):SP X pins D f s':=by
 cases f with
 |next=>obtain ⟨σ',H',I,q⟩:=h;exact ⟨σ',H',I.unwish,q⟩
 |brk=>obtain ⟨σ',H',I,q⟩:=h;exact ⟨σ',H',I.unwish,q⟩
 |cont=>obtain ⟨σ',H',I,q⟩:=h;exact ⟨σ',H',I.unwish,q⟩
 |ret u=>obtain ⟨v,σ',H',I,r,q⟩:=h;exact ⟨v,σ',H',I.unwish,r,q⟩
theorem PSs.nox{st:List Stmt}{t:TS}(h:PSs X.nox st t):PSs X st t:=λpins s σ H D I hw =>
 wpAny_mono (h pins s σ H D (I.wish _) hw) (λ_ _ q=>q.unwish) λ_ _ z=>False.elim z
end
section
variable{X:Cx}{st:Stmt}{ZjC:List Stmt}{t u:TS}{e:Expr}{te:TE}{pos:Pos}
def ZqJ:TS:=λD σ H=>D.nx σ H
def ZrW(t u:TS):TS:=λD σ H=>t { D with nx:=u D } σ H
theorem Zat:PSs X [] ZqJ:=λ_ _ σ H _ I h=>wpAny_execs_nil ⟨σ,H,I,h⟩
theorem Zac(h1:PS X st t)(h2:PSs X ZjC u):PSs X (st::ZjC) (ZrW t u):=by
 intro pins s σ H D I h;refine wpAny_execs_cons (thn (h1 pins s σ H { D with nx:=u D } I h) λf s1 q=>?_)
 cases f with
 |next =>
  obtain ⟨σ',H',I',q⟩:=q;exact h2 pins s1 σ' H' D I' q
 |ret v=>exact q
 |brk=>exact q
 |cont=>exact q
theorem Zae(h1:PS X st t):PSs X [st] t:=by
 intro pins s σ H D I h;refine wpAny_execs_cons (thn (h1 pins s σ H D I h) λf s1 q=>?_)
 cases f with
 |next=>exact wpAny_execs_nil q
 |ret v=>exact q
 |brk=>exact q
 |cont=>exact q
theorem Inv.quiet{pins:List (Addr×Obj)}{σ:St}{H:Hp}{s:Shared}(I:Inv X pins σ H s):interactive X.env=false:=by simp[interactive,I.ok.kind]
def ZqK(te:TE):TS:=λD σ H=>te σ H λ_ H1=>D.nx σ H1
theorem ZaT(he:PE X e te)(hs:swapsWith e none pos.line X.env=pure false:=by rfl):PS X (.Expr e pos) (ZqK te):=by
 intro pins s σ H D I h;exact wpAny_Expr_any (thn (he pins s σ H _ I h) λv s1 ⟨x,H1,I1,r1,q1⟩=>⟨σ,H1,I1,q1⟩) I.quiet hs
def ZrX(te:TE):TS:=λD σ H=>te σ H D.rt
theorem Zal(he:PE X e te):PS X (.Return (some e) pos) (ZrX te):=by
 intro pins s σ H D I h;exact wpAny_Return_some (thn (he pins s σ H _ I h) λv s1 ⟨x,H1,I1,r1,q1⟩=>⟨x,σ,H1,I1,r1,q1⟩)
def ZrY(c:TT)(t u:TS):TS:=λD σ H=>c σ H λb H1=>if b=true then t D σ H1 else u D σ H1
theorem ZaB{c:Expr}{a b:List Stmt}{tc:TT}(hc:PT X c tc)(ha:PSs X a t)(hb:PSs X b u):PS X (.If c a b pos) (ZrY tc t u):=by
 intro pins s σ H D I h;refine wpAny_If (thn (hc pins s σ H _ I h) λd s1 ⟨H1,I1,q1⟩=>?_)
 cases d with
 |true=>exact ha pins s1 σ H1 D I1 q1
 |false=>exact hb pins s1 σ H1 D I1 q1
def Zpp:TS:=λ_ _ _=>False
theorem Zme:PS X st Zpp:=λ_ _ _ _ _ _ h=>h.elim
end
abbrev TG:=V->St->Hp->(St->Hp->Prop)->Prop
abbrev TGs:=List V->St->Hp->(St->Hp->Prop)->Prop
def PG(X:Cx)(target:Expr)(t:TG):Prop :=
 ∀(pins:List (Addr×Obj)) (s:Shared) (σ:St) (H:Hp) (v:V) (u:Value) (Q:St->Hp->Prop),Inv X pins σ H s->RelV v u->t v σ H Q →
  wpAny (model X.prog X.w) X.A (assign target X.env u) (λ_ s'=>∃σ' H',Inv X pins σ' H' s'/\Q σ' H') X.xe s
def PGs(X:Cx)(ts:List Expr)(t:TGs):Prop :=
 ∀(pins:List (Addr×Obj)) (s:Shared) (σ:St) (H:Hp) (vs:List V) (us:List Value) (Q:St->Hp->Prop),Inv X pins σ H s->Vals vs us->t vs σ H Q →
  wpAny (model X.prog X.w) X.A (assignInOrder ((assignEach ts X.env).map (·.2)) us) (λ_ s'=>∃σ' H',Inv X pins σ' H' s'/\Q σ' H') X.xe s
abbrev ZqL:=V->V->V->Hp->(Hp->Prop)->Prop
def Zrx(X:Cx)(t:ZqL):Prop :=
 ∀(pins:List (Addr×Obj)) (s:Shared) (σ:St) (H:Hp) (o i v:V) (ov iv u:Value) (Q:Hp->Prop),Inv X pins σ H s->RelV o ov->RelV i iv->RelV v u->t o i v H Q →
  wpAny (model X.prog X.w) X.A (setItem ov iv u) (λ_ s'=>∃H',Inv X pins σ H' s'/\Q H') X.xe s
abbrev TIp:=V->V->Hp->VK->Prop
def PIp(X:Cx)(op:Operator)(t:TIp):Prop :=
 ∀(pins:List (Addr×Obj)) (s:Shared) (σ:St) (H:Hp) (x y:V) (v u:Value) (Q:VK),Inv X pins σ H s->RelV x v->RelV y u->t x y H Q →
  wpAny (model X.prog X.w) X.A (inplaceOp op v u) (EP X pins σ Q) X.xe s
section
variable{X:Cx}{pos:Pos}
def Zdz(i:Nat):TG:=λv σ H Q=>Q (σ.set i (some v)) H
theorem Zaq{i:Nat}{x:Str}(hN:X.N.Nodup)(hi:X.N[i]?=some x)(hx:Loc X.env.scope x)(hf:X.fn x=true\/X.env.scope.names.lookup x=some .local:=by first|exact .inl rfl|exact .inr rfl|assumption):PG X (.Name x pos) (Zdz i):=by
 intro pins s σ H v u Q I r h;exact wpAny_assign_Name (Zdh I hN hi hx r (λs' I'=>⟨_,H,I',h⟩) hf)
def Zry:TGs:=λvs σ H Q=>vs=[]/\Q σ H
inductive Zmf (t:TG) (u:TGs) (vs:List V) (σ:St) (H:Hp) (Q:St->Hp->Prop):Prop
 |mk (v:V) (r:List V) (_:vs=v::r) (_:t v σ H λσ' H'=>u r σ' H' Q):Zmf t u vs σ H Q
theorem Ze7:PGs X [] Zry:=by
 intro pins s σ H vs us Q I r h;obtain ⟨e,h⟩:=h;subst e
 cases r
 exact assignInOrder_nil ⟨σ,H,I,h⟩
theorem ZbJ{e:Expr}{es:List Expr}{t:TG}{u:TGs}(h1:PG X e t)(h2:PGs X es u)
    (hs:(assignEach (e::es) X.env).map (·.2)=assign e X.env::(assignEach es X.env).map (·.2):=by rfl):PGs X (e::es) (Zmf t u):=by
  intro pins s σ H vs us Q I r h;obtain ⟨v,vr,e1,h⟩:=h;subst e1
  cases r with
  | cons r rr =>
    rw[hs];refine assignInOrder_cons (thn (h1 pins s σ H _ _ _ I r h) λ_ s1 ⟨σ1,H1,I1,q1⟩=>?_);exact h2 pins s1 σ1 H1 _ _ Q I1 rr q1
inductive Zqy (K:ZZfg) (n:Nat) (t:TGs) (v:V) (σ:St) (H:Hp) (Q:St->Hp->Prop):Prop
 |mk (a:Addr) (xs:List V) (_:v = .ref a) (_:SqT K H a xs) (_:xs.length=n) (_:t xs σ H Q):Zqy K n t v σ H Q
theorem Zkk{es:List Expr}{k:Nat}{t:TGs}{n:Nat}(hc:X.calm=true)(h:PGs X es t)
    (hn:(assignEach es X.env).length=n:=by rfl) (hst:(assignEach es X.env).findIdx? (·.1)=none:=by rfl):PG X (.Tuple es k pos) (Zqy X.K n t):=by
  intro pins s σ H v u Q I r hw;obtain ⟨a,xs,e1,hq,hl,hw⟩:=hw;subst e1
  cases r
  obtain ⟨its,rv,ht,hz⟩:=I.tuple hq;refine assign_Tuple_tuple (I.ok.hd hc) ht (by simp[hn,<-hl,rv.length]) hst λh' hx=>?_;have I1:Inv X pins σ H { s with heap:=h' }:=I.kept (t':=s.toks) λb o e=>hx b o (Qi (Heap.lt_size e)) e;exact h pins _ σ H xs _ Q I1 (by simpa using rv) hw
def ZrZ(to ti:TE)(t:ZqL):TG:=λv σ H Q=>to σ H λo H1=>ti σ H1 λi H2=>t o i v H2 λH3=>Q σ H3
theorem Zhg{o i:Expr}{to ti:TE}{t:ZqL}(ho:PE X o to)(hi:PE X i ti)(hs:Zrx X t)
    (ha:∀v,assign (.Subscript o i pos) X.env v=(do
      let ov ← holding [v] (eval o X.env)
      let iv ← holding [v,ov] (eval i X.env)
      standAt pos
      holding [v,ov,iv] (setItem ov iv v)
      release [v,ov,iv] []):=by intro _; rfl):PG X (.Subscript o i pos) (ZrZ to ti t):=by
  intro pins s σ H v u Q I r h;rw[ha];refine wpAny_bind (wpAny_holding (thn (ho pins s σ H _ I h) λov s1 ⟨x,H1,I1,r1,q1⟩=>?_));refine wpAny_bind (wpAny_holding (thn (hi pins s1 σ H1 _ I1 q1) λiv s2 ⟨y,H2,I2,r2,q2⟩=>?_));refine wpAny_bind (wpAny_standAt (wpAny_bind (wpAny_holding (thn (hs pins s2 σ H2 x y v ov iv u _ I2 r1 r2 r q2) λ_ s3 ⟨H3,I3,q3⟩=>?_))));exact wpAny_release ⟨σ,H3,I3,q3⟩
def ZqM(te:TE)(g:TG):TS:=λD σ H=>te σ H λx H1=>g x σ H1 D.nx
theorem Zhh{tg e:Expr}{te:TE}{g:TG}(he:PE X e te)(hg:PG X tg g)(hs:swapsWithSole [tg] e pos.line X.env=pure false:=by rfl)(hw:swappedStores [tg] e X.env=pure none:=by rfl)
    (h1:(assignEach [tg] X.env).map (·.2)=[assign tg X.env]:=by rfl):PS X (.Assign [tg] e pos) (ZqM te g):=by
  intro pins s σ H D I h;refine wpAny_Assign_stores (thn (he pins s σ H _ I h) λv s1 ⟨x,H1,I1,r1,q1⟩=>?_) hs hw;rw[h1];exact thn (hg pins s1 σ H1 x v _ I1 r1 q1) λ_ s2 q=>q
theorem Zak{i:Nat}{x:Str}{e:Expr}{te:TE}{pos':Pos}(hN:X.N.Nodup)(hi:X.N[i]?=some x)(hx:Loc X.env.scope x)(he:PE X e te)(hs:swapsWith e (some (.Name x pos')) pos.line X.env=pure false:=by rfl)(hf:X.fn x=true\/X.env.scope.names.lookup x=some .local:=by first | exact .inl rfl | exact .inr rfl | assumption) :
    PS X (.Assign [.Name x pos'] e pos) (ZqM te (Zdz i)):=by
  intro pins s σ H D I h;refine wpAny_Assign_Name (thn (he pins s σ H _ I h) λv s1 ⟨y,H1,I1,r1,q1⟩=>?_) hs;exact Zdh I1 hN hi hx r1 (λs2 I2=>⟨_,H1,I2,q1⟩) hf
def Zr0(i j:Nat)(ta:TA):TS:=λD σ H=>ta σ H λvs H1=>∃v w,vs=[v,w]/\D.nx ((σ.set i (some v)).set j (some w)) H1
theorem Zpq{i j:Nat}{x y:Str}{a b:Expr}{ta:TA}{px py pt:Pos}{kt k2 pt2}(hc:X.calm=true)(hN:X.N.Nodup)(hi:X.N[i]?=some x)(hj:X.N[j]?=some y)(hij:i≠j)
    (hx:X.env.scope.names.lookup x=some .local) (hy:X.env.scope.names.lookup y=some .local) (ha:PA X [a,b] ta)
    (hw:swappedStores [.Tuple [.Name x px,.Name y py] kt pt] (.Tuple [a,b] k2 pt2) X.env=pure (some [x,y]))
    (hs:swapsWithSole [.Tuple [.Name x px,.Name y py] kt pt] (.Tuple [a,b] k2 pt2) pos.line X.env=pure false:=by rfl) :
    PS X (.Assign [.Tuple [.Name x px,.Name y py] kt pt] (.Tuple [a,b] k2 pt2) pos) (Zr0 i j ta):=by
  intro pins s σ H D I h;rw[exec_Assign_arm];refine wpAny_bind (wpAny_standAt ?_);rw[hs];refine wpAny_bind (wpAny_pure ?_);rw[if_neg ∅];refine wpAny_bind (Tuple_ (thn (ha _ pins s σ H _ I h) λus s1 ⟨vs,H1,I1,r1,q1⟩=>?_));obtain ⟨v,w,e1,q1⟩:=q1;subst e1;obtain ⟨u1,u2,rfl,rv,rw'⟩:∃u1 u2,us=[u1,u2]/\RelV v u1/\RelV w u2:=by
    cases r1 with
    | cons p q =>
      cases q with
      | cons p' q' =>
        cases q'
        exact ⟨_,_,rfl,p,p'⟩
  refine wpAny_newObj_type ?_ (by show 2<=sizeLine; decide);have I2:Inv X pins σ H1 { s1 with heap:=s1.heap.push { cls:=.type "tuple", data:=.seq [u1,u2].toArray } }:=I1.kept (t':=s1.toks) λb o e=>Heap.get?_push_of_some _ e;rw[hw];refine wpAny_bind (wpAny_pure ?_);show wpAny (model X.prog X.w) X.A (do rule "assign.swapped-stores"; let items ← unpackItems (.ref s1.heap.objs.size) 2 none; assignInOrder [λv=>bindName X.env y v,λv=>bindName X.env x v] items.reverse; pure Flow.next) _ _ _;refine wpAny_bind (wpAny_rule (wpAny_bind (unpackItems_tuple (items:=#[u1,u2]) (I.ok.hd hc) (IsTup.new s1.heap _) λh' hx'=>?_)));have I3:=I2.kept (h':=h') (t':=s1.toks) λb o e=>hx' b o (Qi (Heap.lt_size e)) e;show wpAny _ _ (assignInOrder [λv=>bindName X.env y v,λv=>bindName X.env x v] [u2,u1] >>= λ_=>pure Flow.next) _ _ _;refine wpAny_bind (assignInOrder_cons (wpAny_bindName (Zdh I3 hN hj (.inl hy) rw' (λs2 I4=>?_) (.inr hy))));refine assignInOrder_cons (wpAny_bindName (Zdh I4 hN hi (.inl hx) rv (λs3 I5=>assignInOrder_nil (wpAny_pure ?_)) (.inr hx)));rw[List.set_comm _ _ (Ne.symm hij)] at I5;exact ⟨_,H1,I5,q1⟩
def Zr1(i:Nat)(te:TE)(ti:TIp):TS:=λD σ H=>∃x,σ[i]?=some (some x)/\te σ H λy H1=>ti x y H1 λz H2=>D.nx (σ.set i (some z)) H2
theorem ZiZ{i:Nat}{x:Str}{e:Expr}{te:TE}{op:Operator}{ti:TIp}{pos':Pos}(hN:X.N.Nodup)(hi:X.N[i]?=some x)(hx:Loc X.env.scope x)(he:PE X e te)(ho:PIp X op ti)(hf:X.fn x=true\/X.env.scope.names.lookup x=some .local:=by first | exact .inl rfl | exact .inr rfl | assumption) :
    PS X (.AugAssign (.Name x pos') op e pos) (Zr1 i te ti):=by
  intro pins s σ H D I h;obtain ⟨v,e1,h⟩:=h;obtain ⟨m,hn,hl⟩:=I.loc;have vis:Vis X.env.scope x:=by rcases hx with k | k; exact .inl k; exact .inr (.inl k)
  obtain ⟨u,r,l⟩:=hl i x v hi e1 vis;refine wpAny_AugAssign_Name ?_;have go:wpAny (model X.prog X.w) X.A (eval e X.env) (λw s₂=>wpAny (model X.prog X.w) X.A (inplaceOp op u w) (λr s₃=>wpAny (model X.prog X.w) X.A (storeName X.env x r) (λ_=>SP X pins D .next) X.xe s₃) X.xe s₂) X.xe s:=by
    refine thn (he pins s σ H _ I h) λw s1 ⟨y,H1,I1,r1,q1⟩=>?_;refine thn (ho pins s1 σ H1 v y u w _ I1 r r1 q1) λz s2 ⟨zv,H2,I2,r2,q2⟩=>?_;exact Zdh I2 hN hi hx r2 (λs3 I3=>⟨_,H2,I3,q2⟩) hf
  rcases l with ⟨hk,hm⟩ | ⟨hk,c,hc,hcell⟩
  · exact wpAny_loadName_local I.ok.kind hk hn hm go
  · rcases hk with hk | hk
    · exact wpAny_loadName_cell I.ok.kind hk hc hcell go
    · rcases hx with k | k
      · have:X.env.scope.names.lookup x=some .free:=hk
        rw[k] at this; cases this
      · have:X.env.scope.names.lookup x=some .free:=hk
        rw[k] at this; cases this
def ipI(f:Int->Int->Int):TIp:=λx y H Q=>∃i j,x = .int i/\y = .int j/\Q (.int (f i j)) H
theorem Znn:PIp X .Add (ipI λi j=>i+j):=by
 intro pins s σ H x y v u Q I r1 r2 h;obtain ⟨i,j,e1,e2,q⟩:=h;subst e1;subst e2;obtain ⟨t,rfl⟩:=r1;obtain ⟨t',rfl⟩:=r2;exact iadd_int ⟨.int _,H,I.tok _,⟨_,rfl⟩,q⟩
theorem Zpr:PIp X .Sub (ipI λi j=>i-j):=by
 intro pins s σ H x y v u Q I r1 r2 h;obtain ⟨i,j,e1,e2,q⟩:=h;subst e1;subst e2;obtain ⟨t,rfl⟩:=r1;obtain ⟨t',rfl⟩:=r2;exact isub_int ⟨.int _,H,I.tok _,⟨_,rfl⟩,q⟩
def Zps(c:TT)(tb:TS):TS:=λD σ H=>∃W:Nat->St->Hp->Prop,(∃m,W m σ H)/\∀m σ H,W m σ H →
 c σ H λb H1=>if b=true then ∃N:St->Hp->Prop,(∀σ' H',N σ' H'->∃m',m'<m/\W m' σ' H')/\tb { D with nx:=N,ct:=N,bk:=D.nx } σ H1 else D.nx σ H1
theorem Zbq{c:Expr}{body:List Stmt}{tc:TT}{tb:TS}(hp:PassesOwn (model X.prog X.w) X.A X.env X.xe)(hc:PT X c tc)(hb:PSs X body tb):PS X (.While c body [] pos) (Zps tc tb):=by
 intro pins s σ H D I h;obtain ⟨W,⟨m0,w0⟩,turn⟩:=h;refine wpAny_While (codeAny_whileLoop (λn s'=>∃σ' H',Inv X pins σ' H' s'/\W n σ' H') ?_ m0 ⟨σ,H,I,w0⟩);rintro n s1 ⟨σ1,H1,I1,w1⟩;refine wpAny_passesOwn hp (thn (hc pins s1 σ1 H1 _ I1 (turn n σ1 H1 w1)) λb s2 ⟨H2,I2,q2⟩=>?_)
 cases b with
 |true =>
  obtain ⟨N,hN,q2⟩:=q2;rw[if_pos rfl];refine wpAny_passesOwn hp (thn (hb pins s2 σ1 H2 _ I2 q2) λf s3 q3=>?_)
  cases f with
  |next =>
   obtain ⟨σ3,H3,I3,n3⟩:=q3;obtain ⟨m',hm,w3⟩:=hN σ3 H3 n3;exact ⟨m',hm,σ3,H3,I3,w3⟩
  |cont =>
   obtain ⟨σ3,H3,I3,n3⟩:=q3;obtain ⟨m',hm,w3⟩:=hN σ3 H3 n3;exact ⟨m',hm,σ3,H3,I3,w3⟩
  |brk=>exact q3
  |ret v=>exact q3
 |false =>
  rw[if_neg Qy];exact wpAny_execs_nil ⟨σ1,H2,I2,q2⟩
end
structure It where
 go:Nat->Hp->Prop
 yld:Nat->Hp->V->Hp->Prop
 stop:Nat->Hp->Prop
def Zkl(X:Cx)(pins:List (Addr×Obj))(H:Hp)(b:Addr):Prop :=
 H b=none/\b≠X.env.locals/\b∉X.fs/\(b∈X.ex\/X.s₀.heap.objs.size<=b)/\(∀x c,X.env.cells.lookup x=some c->c≠b)/\∀p∈X.pn++pins,p.1≠b
theorem Inv.fpOk{X:Cx}{pins:List (Addr×Obj)}{σ:St}{H H':Hp}{s:Shared}{b:Addr}(I:Inv X pins σ H s)(hb:s.heap.objs.size<=b)(hn:H' b=none):Zkl X pins H' b:=by
 refine ⟨hn,Nat.ne_of_gt (Q8 I.lt hb),I.nofs hb,.inr (Q0 I.sz hb),λx c e z=>?_,λp hp z=>?_⟩
 ·obtain ⟨v,q⟩:=I.cell x c e;exact absurd (Q8 q.lt (by rw[z];exact hb)) (Wd _)
 ·exact absurd (Q8 (Heap.lt_size (I.pin p hp).1) (by rw[z];exact hb)) (Wd _)
structure Turn (P:Program) (w:World) (K:ZZfg) (tg:Expr) (J:It) (fp:ZZla) (it:Addr) (tn:Nat->Heap->Prop):Prop where
 mem:it∈fp
 obj:∀i h,tn i h->∀b∈fp,∃o,h.get? b=some o/\∀v,o.data ≠ .cell v
 keep:∀i h h',tn i h->(∀b∈fp,∀o,h.get? b=some o->h'.get? b=some o)->tn i h'
 item:∀(X:Cx),X.prog=P->X.w=w->X.K=K->X.calm=true->∀(i:Nat) (pins:List (Addr×Obj)) (s:Shared) (σ:St) (H:Hp) (E:Value->Shared->Prop),Inv X pins σ H s->(∀b∈fp,Zkl X pins H b)->tn i s.heap->J.go i H →
  wpAny (model P w) X.A (pyNext (.ref it)) (λr s1=>∃u,r=some u ∧
   wpAny (model P w) X.A (letOwnedTupleGo tg (.ref it) u) (λ_ s2=>∃x H',Inv X pins σ H' s2/\RelV x u/\J.yld i H x H'/\tn (i+1) s2.heap/\∀b∈fp,H' b=none) E s1) E s
 done:∀(X:Cx),X.prog=P->X.w=w->X.K=K->X.calm=true->∀(i:Nat) (pins:List (Addr×Obj)) (s:Shared) (σ:St) (H:Hp) (E:Value->Shared->Prop),Inv X pins σ H s->(∀b∈fp,Zkl X pins H b)->tn i s.heap->J.stop i H →
  wpAny (model P w) X.A (pyNext (.ref it)) (λr s1=>r=none/\Inv X pins σ H s1) E s
 self:∀(A:Around) (i:Nat) (s:Shared) (Q:Value->Shared->Prop) (E:Value->Shared->Prop),tn i s.heap->Q (.ref it) s->wpAny (model P w) A (pyIter (.ref it)) Q E s
abbrev TI:=St->Hp->(It->Hp->Prop)->Prop
def PIE(X:Cx)(pins:List (Addr×Obj))(σ:St)(tg:Expr)(R:It->Hp->Prop)(itv:Value)(s2:Shared):Prop :=
 ∃(it:Addr) (fp:ZZla) (tn:Nat->Heap->Prop) (J:It) (H':Hp),itv = .ref it/\Inv X pins σ H' s2/\Turn X.prog X.w X.K tg J fp it tn/\tn 0 s2.heap/\(∀b∈fp,Zkl X pins H' b)/\R J H'
def PI(X:Cx)(tg iter:Expr)(wi:TI):Prop :=
 ∀(pins:List (Addr×Obj)) (s:Shared) (σ:St) (H:Hp) (R:It->Hp->Prop),Inv X pins σ H s->wi σ H R →
  wpAny (model X.prog X.w) X.A (eval iter X.env) (λv s1=>wpAny (model X.prog X.w) X.A (pyIter v) (PIE X pins σ tg R) X.xe s1) X.xe s
theorem Zkm{M:Model}{A:Around}{E:Value->Shared->Prop}{s:Shared}{tg:Expr}{it:Addr}{u:Value}{o:Obj}{n:String}{vs:Array Value}{Q:Unit->Shared->Prop}(ho:s.heap.get? it=some o)(hc:o.cls = .type n)(hd:o.data = .fields vs)
    (hn:["enumerate", "zip", "dict_itemiterator", "dict_reverseitemiterator", "odict_iterator", "itertools.zip_longest", "itertools.pairwise"].contains n=false) (hQ:Q () s):wpAny M A (letOwnedTupleGo tg (.ref it) u) Q E s:=by
  unfold letOwnedTupleGo
  cases tg <;> first
    | exact wpAny_pure hQ
    | (cases u <;> first
        | exact wpAny_pure hQ
        | (refine wpAny_bind (wpAny_load ho ?_)
           rw[hc,hd];show wpAny M A (if (["enumerate", "zip", "dict_itemiterator", "dict_reverseitemiterator", "odict_iterator", "itertools.zip_longest", "itertools.pairwise"].contains n&&vs[0]?==some (rawInt _))=true then _ else _) Q E s;rw[if_neg (by intro h; rw[hn,Bool.false_and] at h; cases h)];exact wpAny_pure hQ))
def Itl(K:ZZfg)(a:Addr):It :=
 ⟨λi H=>∃xs x,SqL K H a xs/\xs[i]?=some x,λi H x H'=>H'=H/\∀xs,SqL K H a xs->xs[i]?=some x,λi H=>∃xs,SqL K H a xs/\xs.length<=i⟩
def Itt(K:ZZfg)(a:Addr):It :=
 ⟨λi H=>∃xs x,SqT K H a xs/\xs[i]?=some x,λi H x H'=>H'=H/\∀xs,SqT K H a xs->xs[i]?=some x,λi H=>∃xs,SqT K H a xs/\xs.length<=i⟩
def Itr(lo:Int)(n:Nat):It:=⟨λi _=>i<n,λi H x H'=>H'=H/\x = .int (lo+i),λi _=>n<=i⟩
theorem Zkn{P:Program}{w:World}{K:ZZfg}{tg:Expr}(a it:Addr):Turn P w K tg (Itl K a) [it] it (λi h=>h.IsListIter it a i) where
 mem:=by simp
 obj:=λi h st b hb=>by
  have e:b=it:=by simpa using hb
  subst e;obtain ⟨o,e,c,d⟩:=st;exact ⟨o,e,λv z=>by rw[d] at z;cases z⟩
 keep:=λi h h' st k=>st.at λo e=>k it (by simp) o e
 item:=by
  intro X hP hw hK hc i pins s σ H E I hf st hg;subst hP hw hK;obtain ⟨xs,x,hq,hx⟩:=hg;obtain ⟨its,rv,p,hz⟩:=I.list hq;obtain ⟨u,hu,ru⟩:=rv.get hx;obtain ⟨f0,f1,f2,f3,f4,f5⟩:=hf it (by simp);refine wpAny_pyNext_list_item st p.isList (x:=u) (by simpa using hu) λh' st' sb=>?_;have I1:Inv X pins σ H { s with heap:=h' }:=I.turned (t':=s.toks) (λb o hb e=>(sb.2 b hb).trans e) f0 f1 f3 f4 f5;obtain ⟨o,e,c,d⟩:=id st';exact ⟨u,rfl,Zkm (s:={ s with heap:=h' }) e c d ∅ ⟨x,H,I1,ru,⟨rfl,λys hy=>by rw[I.list_inj hy hq];exact hx⟩,st',λb hb=>(hf b hb).1⟩⟩
 done:=by
  intro X hP hw hK hc i pins s σ H E I hf st hg;subst hP hw hK;obtain ⟨xs,hq,hx⟩:=hg;obtain ⟨its,rv,p,hz⟩:=I.list hq;obtain ⟨f0,f1,f2,f3,f4,f5⟩:=hf it (by simp);have hl:=rv.length;exact wpAny_pyNext_list_end (I.ok.hd hc) st p.isList (by simp;omega) λh' eb=>⟨rfl,I.turned (t':=s.toks) (λb o hb e=>eb b o hb e) f0 f1 f3 f4 f5⟩
 self:=λ_ _ _ _ _ st h=>wpAny_pyIter_listiter st h
theorem ZjD{P:Program}{w:World}{K:ZZfg}{tg:Expr}(a it:Addr):Turn P w K tg (Itt K a) [it] it (λi h=>h.IsTupleIter it a i) where
 mem:=by simp
 obj:=λi h st b hb=>by
  have e:b=it:=by simpa using hb
  subst e;obtain ⟨o,e,c,d⟩:=st;exact ⟨o,e,λv z=>by rw[d] at z;cases z⟩
 keep:=λi h h' st k=>st.at λo e=>k it (by simp) o e
 item:=by
  intro X hP hw hK hc i pins s σ H E I hf st hg;subst hP hw hK;obtain ⟨xs,x,hq,hx⟩:=hg;obtain ⟨its,rv,p,hz⟩:=I.tuple hq;obtain ⟨u,hu,ru⟩:=rv.get hx;obtain ⟨f0,f1,f2,f3,f4,f5⟩:=hf it (by simp);refine wpAny_pyNext_tuple_item st (show s.heap.IsTuple a its.toArray from p) (x:=u) (by simpa using hu) λh' st' sb=>?_;have I1:Inv X pins σ H { s with heap:=h' }:=I.turned (t':=s.toks) (λb o hb e=>(sb.2 b hb).trans e) f0 f1 f3 f4 f5;obtain ⟨o,e,c,d⟩:=id st';exact ⟨u,rfl,Zkm (s:={ s with heap:=h' }) e c d ∅ ⟨x,H,I1,ru,⟨rfl,λys hy=>by rw[I.tuple_inj hy hq];exact hx⟩,st',λb hb=>(hf b hb).1⟩⟩
 done:=by
  intro X hP hw hK hc i pins s σ H E I hf st hg;subst hP hw hK;obtain ⟨xs,hq,hx⟩:=hg;obtain ⟨its,rv,p,hz⟩:=I.tuple hq;obtain ⟨f0,f1,f2,f3,f4,f5⟩:=hf it (by simp);have hl:=rv.length;exact wpAny_pyNext_tuple_end (I.ok.hd hc) st (show s.heap.IsTuple a its.toArray from p) (by simp;omega) λh' eb=>⟨rfl,I.turned (t':=s.toks) (λb o hb e=>eb b o hb e) f0 f1 f3 f4 f5⟩
 self:=λ_ _ _ _ _ st h=>wpAny_pyIter_tupleiter st h
theorem ZjE{P:Program}{w:World}{K:ZZfg}{tg:Expr}(it:Addr)(lo:Int)(n:Nat):Turn P w K tg (Itr lo n) [it] it (λi h=>IsRangeIter h it (lo+(i:Nat)*1) ((n:Int)-(i:Nat)) 1) where
 mem:=by simp
 obj:=λi h st b hb=>by
  have e:b=it:=by simpa using hb
  subst e;exact ⟨_,st,λv z=>by
   have z':Data.fields _=Data.cell v:=z
   cases z'⟩
 keep:=λi h h' st k=>k it (by simp) _ st
 item:=by
  intro X hP hw hK hc i pins s σ H E I hf st hg;subst hP hw hK;obtain ⟨f0,f1,f2,f3,f4,f5⟩:=hf it (by simp);have W:=Walks.range (prog:=X.prog) (w:=X.w) (I.ok.hd hc) it lo 1 n;refine W.item i s _ _ hg st λv h' tk hv st' kk=>?_;obtain ⟨t,rfl⟩:=hv;have I1:Inv X pins σ H { s with heap:=h',toks:=tk }:=I.turned (λb o hb e=>kk b o (by simpa using hb) e) f0 f1 f3 f4 f5;refine ⟨_,rfl,Zkm (s:={ s with heap:=h',toks:=tk }) (n :="range_iterator") st' rfl rfl ∅ ⟨.int (lo+i),H,I1,⟨t,?_⟩,⟨rfl,rfl⟩,st',λb hb=>(hf b hb).1⟩⟩;rw[Uq]
 done:=by
  intro X hP hw hK hc i pins s σ H E I hf st hg;subst hP hw hK;obtain ⟨f0,f1,f2,f3,f4,f5⟩:=hf it (by simp);exact wpAny_pyNext_range_end (I.ok.hd hc) st (by have:n<=i:=hg;omega) λh' eb=>⟨rfl,I.turned (t':=s.toks) (λb o hb e=>eb b o hb e) f0 f1 f3 f4 f5⟩
 self:=λ_ _ _ _ _ st h=>wpAny_pyIter_rangeiter st h
section
variable{X:Cx}{tg:Expr}
inductive Zno (K:ZZfg) (x:V) (H1:Hp) (R:It->Hp->Prop):Prop
 |mk (a:Addr) (_:x = .ref a) (_:(∃xs,SqL K H1 a xs)) (_:R (Itl K a) H1):Zno K x H1 R
def ZqN(K:ZZfg)(tl:TE):TI:=λσ H R=>tl σ H λx H1=>Zno K x H1 R
def Zr2(K:ZZfg)(tl:TE):TI:=λσ H R=>tl σ H λx H1=>∃a,x = .ref a/\(∃xs,SqT K H1 a xs)/\R (Itt K a) H1
theorem ZaD{l:Expr}{tl:TE}(hl:PE X l tl):PI X tg l (ZqN X.K tl):=by
 intro pins s σ H R I h;refine thn (hl pins s σ H _ I h) λv s1 ⟨x,H1,I1,r1,q1⟩=>?_;obtain ⟨a,e,⟨xs,hq⟩,q⟩:=q1;subst e
 cases r1
 obtain ⟨its,rv,p,hz⟩:=I1.list hq;refine wpAny_pyIter_list p.isList ?_;refine ⟨s1.heap.objs.size,[s1.heap.objs.size],_,_,H1,rfl,I1.kept (t':=s1.toks) λb o e=>Heap.get?_push_of_some _ e,Zkn a _,⟨_,Heap.get?_push_size _ rfl,rfl,rfl⟩,λb hb=>?_,q⟩;have e:b=s1.heap.objs.size:=by simpa using hb
 subst e;exact I1.fpOk (Q3 _) (I1.hok.fresh (Q3 _))
theorem Zpt{l:Expr}{tl:TE}(hl:PE X l tl):PI X tg l (Zr2 X.K tl):=by
 intro pins s σ H R I h;refine thn (hl pins s σ H _ I h) λv s1 ⟨x,H1,I1,r1,q1⟩=>?_;obtain ⟨a,e,⟨xs,hq⟩,q⟩:=q1;subst e
 cases r1
 obtain ⟨its,rv,p,hz⟩:=I1.tuple hq;refine wpAny_pyIter_tuple (show s1.heap.IsTuple a its.toArray from p) ?_;refine ⟨s1.heap.objs.size,[s1.heap.objs.size],_,_,H1,rfl,I1.kept (t':=s1.toks) λb o e=>Heap.get?_push_of_some _ e,ZjD a _,⟨_,Heap.get?_push_size _ rfl,rfl,rfl⟩,λb hb=>?_,q⟩;have e:b=s1.heap.objs.size:=by simpa using hb
 subst e;exact I1.fpOk (Q3 _) (I1.hok.fresh (Q3 _))
theorem Zi0{pins:List (Addr×Obj)}{σ:St}{H:Hp}{s:Shared}{R:It->Hp->Prop}{E:Value->Shared->Prop}{lo hi:Int}{t u v:Tok}{tk:Nat}(I:Inv X pins σ H s)(h1:-(2^62)<=lo)(h2:lo<2^62)(h3:-(2^62)<=hi)(h4:hi<2^62)
    (q:R (Itr lo (hi-lo).toNat) H):wpAny (model X.prog X.w) X.A (pyIter (.ref s.heap.objs.size)) (PIE X pins σ tg R) E { s with heap:=s.heap.push { cls:=.type "range", data:=.fields #[.int lo t,.int hi u,.int 1 v] },toks:=tk }:=by
  refine wpAny_pyIter_range (IsRange.new ..) (small_one h1 h2 h3 h4) ?_;have I1:Inv X pins σ H { s with heap:=s.heap.push { cls:=.type "range", data:=.fields #[.int lo t,.int hi u,.int 1 v] },toks:=tk }:=I.kept λb o e=>Heap.get?_push_of_some _ e;refine ⟨(s.heap.push { cls:=.type "range", data:=.fields #[.int lo t,.int hi u,.int 1 v] }).objs.size,[(s.heap.push { cls:=.type "range", data:=.fields #[.int lo t,.int hi u,.int 1 v] }).objs.size],_,_,H,rfl,
    I1.kept (t':=tk) λb o e=>Heap.get?_push_of_some _ e,ZjE _ lo (hi-lo).toNat,?_,λb hb=>?_,q⟩
  · have e1:lo+((0:Nat):Int)*1=lo:=by simp
    have e2:(((hi-lo).toNat:Nat):Int)-((0:Nat):Int)=Builtin.Range.rangeSize lo hi 1:=by rw[rangeSize_one]; split <;> omega
    show IsRangeIter _ _ (lo+((0:Nat):Int)*1) ((((hi-lo).toNat:Nat):Int)-((0:Nat):Int)) 1;rw[e1,e2];exact Heap.get?_push_size _ rfl
  · have e:b=(s.heap.push { cls:=.type "range", data:=.fields #[.int lo t,.int hi u,.int 1 v] }).objs.size:=by simpa using hb
    subst e;exact I1.fpOk (Q3 _) (I1.hok.fresh (Q3 _))
inductive Znp (vs:List V) (H1:Hp) (R:It->Hp->Prop):Prop
 |mk (j:Int) (_:vs=[.int j]) (_:-(2^62)<=j) (_:j<2^62) (_:R (Itr 0 j.toNat) H1):Znp vs H1 R
def ZqO(ta:TA):TI:=λσ H R=>ta σ H λvs H1=>Znp vs H1 R
inductive Znq (vs:List V) (H1:Hp) (R:It->Hp->Prop):Prop
 |mk (i j:Int) (_:vs=[.int i,.int j]) (_:(-(2^62)<=i/\i<2^62 /\ -(2^62)<=j/\j<2^62)) (_:R (Itr i (j-i).toNat) H1):Znq vs H1 R
def ZqP(ta:TA):TI:=λσ H R=>ta σ H λvs H1=>Znq vs H1 R
theorem ZaE{a:Expr}{ta:TA}{p pos:Pos}(hg:Gl X "range") (hm:X.mg "range"=none) (ha:PA X [a] ta) (hs:starEach [a] X.env=[(false,eval a X.env)]:=by rfl):PI X tg (.Call (.Name "range" p) [a] [] pos) (ZqO ta):=by
 intro pins s σ H R I h;refine Call_ (Zdu I hg hm boot_range (PyProof.Rows.callWith_type1 (thn (ha pos pins s σ H _ I h) λus s1 ⟨vs,H1,I1,r1,q1⟩=>?_) hs rfl));obtain ⟨j,e,q1,q2,q⟩:=q1;subst e
 cases r1 with
 |cons r rr =>
  cases rr
  obtain ⟨t,rfl⟩:=r;exact call_range_1 (Zi0 I1 ⋯ ⋯ q1 q2 (by simpa using q))
theorem Ze8{a b:Expr}{ta:TA}{p pos:Pos}(hg:Gl X "range") (hm:X.mg "range" = none) (ha:PA X [a,b] ta) (hs:starEach [a,b] X.env=[(false,eval a X.env),(false,eval b X.env)]:=by rfl) (hs2:starEach [b] X.env=[(false,eval b X.env)]:=by rfl) :
    PI X tg (.Call (.Name "range" p) [a,b] [] pos) (ZqP ta):=by
  intro pins s σ H R I h;refine Call_ (Zdu I hg hm boot_range (PyProof.Rows.callWith_type1 (thn (ha pos pins s σ H _ I h) λus s1 ⟨vs,H1,I1,r1,q1⟩=>?_) (by rw[hs,hs2]) (by rw[hs2]; rfl)));obtain ⟨i,j,e,⟨q1,q2,q3,q4⟩,q⟩:=q1;subst e
  cases r1 with
  | cons r rr =>
    cases rr with
    | cons r' rr =>
      cases rr
      obtain ⟨t,rfl⟩:=r;obtain ⟨t',rfl⟩:=r';exact call_range_2 (Zi0 I1 q1 q2 q3 q4 q)
def Zr3(wi:TI)(g:TG)(tb:TS):TS:=λD σ H=>wi σ H λJ H1=>∃W:Nat->Nat->St->Hp->Prop,(∃m,W 0 m σ H1)/\∀i m σ H,W i m σ H →
 (J.stop i H/\D.nx σ H)\/(J.go i H/\∃N:St->Hp->Prop,(∀σ' H',N σ' H'->∃m',m'<m/\W (i+1) m' σ' H')/\∀x H',J.yld i H x H'->g x σ H' λσ2 H2=>tb { D with nx:=N,ct:=N,bk:=D.nx } σ2 H2)
def Zi1(fp:ZZla)(h:Heap):List (Addr×Obj):=fp.filterMap λb=>(h.get? b).map λo=>(b,o)
theorem Zdi{fp:ZZla}{h:Heap}{b:Addr}{o:Obj}(hb:b∈fp)(e:h.get? b=some o):(b,o)∈Zi1 fp h:=List.mem_filterMap.mpr ⟨b,hb,by rw[e];rfl⟩
theorem Zko{fp:ZZla}{h:Heap}{p:Addr×Obj}(hp:p∈Zi1 fp h):p.1∈fp/\h.get? p.1=some p.2:=by
 obtain ⟨b,hb,e⟩:=List.mem_filterMap.mp hp
 cases q:h.get? b with
 |none=>rw[q] at e;cases e
 |some o =>
  rw[q] at e;have e':(b,o)=p:=Option.some.inj e;subst e';exact ⟨hb,q⟩
theorem Inv.pinned{pins:List (Addr×Obj)}{σ:St}{H:Hp}{s:Shared}{fp:ZZla}(I:Inv X pins σ H s)(hf:∀b∈fp,Zkl X pins H b)(ho:∀b∈fp,∃o,s.heap.get? b=some o/\∀v,o.data ≠ .cell v):Inv X (pins++Zi1 fp s.heap) σ H s :=
 I.pins_of λp hp=>(Qx.mp hp).elim (λz=>I.pin p (Wg _ z)) λz=>by
  obtain ⟨hb,e⟩:=Zko z;obtain ⟨f0,f1,f2,_⟩:=hf p.1 hb;obtain ⟨o,e',d⟩:=ho p.1 hb;rw[e] at e';cases e';exact ⟨e,f0,f1,f2,d⟩
theorem Inv.unpinned{pins pl:List (Addr×Obj)}{σ:St}{H:Hp}{s:Shared}(I:Inv X (pins++pl) σ H s):Inv X pins σ H s:=I.pins_of λp hp=>I.pin p (Wg _ (List.mem_append_left _ hp))
theorem Za2{iter:Expr}{body:List Stmt}{wi:TI}{g:TG}{tb:TS}{pos:Pos}(hp:PassesOwn (model X.prog X.w) X.A X.env X.xe)(hc:X.calm=true)(hi:PI X tg iter wi)(hg:PG X tg g)(hb:PSs X body tb)
    (hs:∀x,foldedSetIterable iter X.env x=pure x:=by intro _; rfl):PS X (.For tg iter body [] pos) (Zr3 wi g tb):=by
  intro pins s σ H D I h;refine wpAny_For (thn (hi pins s σ H _ I h) λv s1 h1=>thn h1 λitv s2 h2=>?_) hs;obtain ⟨it,fp,tn,J,H2,e,I2,T,st2,f2,W,⟨m0,w0⟩,turn⟩:=h2;subst e;have stat:∀ {H':Hp},(∀b∈fp,H' b=none)->∀b∈fp,Zkl X pins H' b:=λhn b hb=>⟨hn b hb,(f2 b hb).2⟩;refine codeAny_forLoop_any (λn s'=>∃i σ' H',Inv X pins σ' H' s'/\tn i s'.heap/\(∀b∈fp,H' b=none)/\W i n σ' H') ?_ m0 ⟨0,σ,H2,I2,st2,λb hb=>(f2 b hb).1,w0⟩;rintro n s3 ⟨i,σ3,H3,I3,st3,fr3,w3⟩;rcases turn i n σ3 H3 w3 with ⟨stop,qn⟩ | ⟨go,N,hN,step⟩
  · refine wpAny_passesOwn hp (thn (T.done X rfl rfl rfl hc i pins s3 σ3 H3 X.xe I3 (stat fr3) st3 stop) λr s4 ⟨hr,I4⟩=>?_)
    subst hr;exact wpAny_execs_nil ⟨σ3,H3,I4,qn⟩
  · refine wpAny_passesOwn hp (thn (T.item X rfl rfl rfl hc i pins s3 σ3 H3 X.xe I3 (stat fr3) st3 go) λr s4 ⟨u,hr,h4⟩=>?_)
    subst hr;refine wpAny_passesOwn hp (thn h4 λ_ s5 ⟨x,H5,I5,r5,y5,st5,fr5⟩=>?_);have I5':=I5.pinned (stat fr5) (T.obj _ _ st5);refine wpAny_passesOwn hp (thn (hg _ s5 σ3 H5 x u _ I5' r5 (step x H5 y5)) λ_ s6 ⟨σ6,H6,I6,q6⟩=>?_);refine wpAny_passesOwn hp (thn (hb _ s6 σ6 H6 _ I6 q6) λf s7 q7=>?_);have again:∀ {σ7:St} {H7:Hp},Inv X (pins++Zi1 fp s5.heap) σ7 H7 s7->N σ7 H7->∃m,m<n/\∃i σ' H',Inv X pins σ' H' s7/\tn i s7.heap/\(∀b∈fp,H' b=none)/\W i m σ' H':=fun {σ7 H7} I7 n7=>by
      obtain ⟨m',hm,w7⟩:=hN σ7 H7 n7;refine ⟨m',hm,i+1,σ7,H7,I7.unpinned,T.keep _ _ _ st5 λb hb o e=>(I7.pin (b,o) (Wg _ (Wg _ (Zdi hb e)))).1,λb hb=>?_,w7⟩;obtain ⟨o,e,d⟩:=T.obj _ _ st5 b hb;exact (I7.pin (b,o) (Wg _ (Wg _ (Zdi hb e)))).2.1
    cases f with
    | next=>obtain ⟨σ7,H7,I7,n7⟩:=q7; exact again I7 n7
    | cont=>obtain ⟨σ7,H7,I7,n7⟩:=q7; exact again I7 n7
    | brk=>obtain ⟨σ7,H7,I7,q7⟩:=q7; exact ⟨σ7,H7,I7.unpinned,q7⟩
    | ret v=>obtain ⟨x7,σ7,H7,I7,r7,q7⟩:=q7; exact ⟨x7,σ7,H7,I7.unpinned,r7,q7⟩
end
theorem ZbV{K:ZZfg}{a:Addr}{xs:List V}{g:TG}{tb:TS}{D:Ends}{σ:St}{H:Hp}(Pv:Nat->St->Hp->Prop)(h0:Pv 0 σ H)(hl:∀i σ H,i<=xs.length->Pv i σ H->SqL K H a xs)
    (hs:∀i x σ H,xs[i]?=some x->Pv i σ H->g x σ H λσ2 H2=>tb { D with nx:=Pv (i+1),ct:=Pv (i+1),bk:=D.nx } σ2 H2) (hd:∀σ H,Pv xs.length σ H->D.nx σ H) :
    ∃W:Nat->Nat->St->Hp->Prop,(∃m,W 0 m σ H)/\∀i m σ H,W i m σ H →
      ((Itl K a).stop i H/\D.nx σ H)\/((Itl K a).go i H/\∃N:St->Hp->Prop,(∀σ' H',N σ' H'->∃m',m'<m/\W (i+1) m' σ' H')/\∀x H',(Itl K a).yld i H x H'->g x σ H' λσ2 H2=>tb { D with nx:=N,ct:=N,bk:=D.nx } σ2 H2):=by
  refine ⟨λi m σ H=>m=xs.length-i/\i<=xs.length/\Pv i σ H,⟨xs.length,by simp,Qf _,h0⟩,?_⟩;rintro i m σ H ⟨rfl,hi,p⟩;have q:=hl i σ H hi p
  by_cases hlt:i<xs.length
  · refine .inr ⟨⟨xs,xs[i],q,by simp[hlt]⟩,Pv (i+1),λσ' H' p'=>⟨xs.length-(i+1),⋯,rfl,hlt,p'⟩,λx H' y=>?_⟩
    obtain ⟨e,y⟩:=y;subst e;exact hs i x σ _ (y xs q) p
  · have e:i=xs.length:=⋯
    subst e;exact .inl ⟨⟨xs,q,Q3 _⟩,hd σ H p⟩
theorem Zn7{K:ZZfg}{a:Addr}{xs:List V}{g:TG}{tb:TS}{D:Ends}{σ:St}{H:Hp}(Pv:Nat->St->Hp->Prop)(h0:Pv 0 σ H)(hl:∀i σ H,i<=xs.length->Pv i σ H->SqT K H a xs)
    (hs:∀i x σ H,xs[i]?=some x->Pv i σ H->g x σ H λσ2 H2=>tb { D with nx:=Pv (i+1),ct:=Pv (i+1),bk:=D.nx } σ2 H2) (hd:∀σ H,Pv xs.length σ H->D.nx σ H) :
    ∃W:Nat->Nat->St->Hp->Prop,(∃m,W 0 m σ H)/\∀i m σ H,W i m σ H →
      ((Itt K a).stop i H/\D.nx σ H)\/((Itt K a).go i H/\∃N:St->Hp->Prop,(∀σ' H',N σ' H'->∃m',m'<m/\W (i+1) m' σ' H')/\∀x H',(Itt K a).yld i H x H'->g x σ H' λσ2 H2=>tb { D with nx:=N,ct:=N,bk:=D.nx } σ2 H2):=by
  refine ⟨λi m σ H=>m=xs.length-i/\i<=xs.length/\Pv i σ H,⟨xs.length,by simp,Qf _,h0⟩,?_⟩;rintro i m σ H ⟨rfl,hi,p⟩;have q:=hl i σ H hi p
  by_cases hlt:i<xs.length
  · refine .inr ⟨⟨xs,xs[i],q,by simp[hlt]⟩,Pv (i+1),λσ' H' p'=>⟨xs.length-(i+1),⋯,rfl,hlt,p'⟩,λx H' y=>?_⟩
    obtain ⟨e,y⟩:=y;subst e;exact hs i x σ _ (y xs q) p
  · have e:i=xs.length:=⋯
    subst e;exact .inl ⟨⟨xs,q,Q3 _⟩,hd σ H p⟩
theorem Zbi{lo:Int}{n:Nat}{g:TG}{tb:TS}{D:Ends}{σ:St}{H:Hp}(Pv:Nat->St->Hp->Prop)(h0:Pv 0 σ H)
    (hs:∀i σ H,i<n->Pv i σ H->g (.int (lo+i)) σ H λσ2 H2=>tb { D with nx:=Pv (i+1),ct:=Pv (i+1),bk:=D.nx } σ2 H2) (hd:∀σ H,Pv n σ H->D.nx σ H) :
    ∃W:Nat->Nat->St->Hp->Prop,(∃m,W 0 m σ H)/\∀i m σ H,W i m σ H →
      ((Itr lo n).stop i H/\D.nx σ H)\/((Itr lo n).go i H/\∃N:St->Hp->Prop,(∀σ' H',N σ' H'->∃m',m'<m/\W (i+1) m' σ' H')/\∀x H',(Itr lo n).yld i H x H'->g x σ H' λσ2 H2=>tb { D with nx:=N,ct:=N,bk:=D.nx } σ2 H2):=by
  refine ⟨λi m σ H=>m=n-i/\i<=n/\Pv i σ H,⟨n,by simp,Qf _,h0⟩,?_⟩;rintro i m σ H ⟨rfl,hi,p⟩
  by_cases hlt:i<n
  · refine .inr ⟨hlt,Pv (i+1),λσ' H' p'=>⟨n-(i+1),⋯,rfl,hlt,p'⟩,λx H' y=>?_⟩
    obtain ⟨e,y⟩:=y;subst e y;exact hs i σ _ hlt p
  · have e:i=n:=⋯
    subst e;exact .inl ⟨Q3 _,hd σ H p⟩
abbrev R2:=V->V->Hp->VK->Prop
def OpR(X:Cx)(f:Value->Value->Sem Value)(r:R2):Prop :=
 ∀(pins:List (Addr×Obj)) (s:Shared) (σ:St) (H:Hp) (x y:V) (v u:Value) (Q:VK),Inv X pins σ H s->RelV x v->RelV y u->r x y H Q →
  wpAny (model X.prog X.w) X.A (f v u) (EP X pins σ Q) X.xe s
def UnR(X:Cx)(f:Value->Sem Value)(r:V->Hp->VK->Prop):Prop :=
 ∀(pins:List (Addr×Obj)) (s:Shared) (σ:St) (H:Hp) (x:V) (v:Value) (Q:VK),Inv X pins σ H s->RelV x v->r x H Q →
  wpAny (model X.prog X.w) X.A (f v) (EP X pins σ Q) X.xe s
def CallR(X:Cx)(f:Value)(r:List V->Hp->VK->Prop):Prop :=
 ∀(pins:List (Addr×Obj)) (s:Shared) (σ:St) (H:Hp) (xs:List V) (us:List Value) (Q:VK),Inv X pins σ H s->Vals xs us->r xs H Q →
  wpAny (model X.prog X.w) X.A (call f us) (EP X pins σ Q) X.xe s
def tOp(r:R2)(ta tb:TE):TE:=λσ H Q=>ta σ H λx H1=>tb σ H1 λy H2=>r x y H2 Q
def tUn(r:V->Hp->VK->Prop)(ta:TE):TE:=λσ H Q=>ta σ H λx H1=>r x H1 Q
inductive rI (C:Int->Int->Prop) (g:Int->Int->V) (x y:V) (H:Hp) (Q:VK):Prop
 |mk (i j:Int) (_:x = .int i) (_:y = .int j) (_:C i j) (_:Q (g i j) H):rI C g x y H Q
inductive rI0 (g:Int->Int->V) (x y:V) (H:Hp) (Q:VK):Prop
 |mk (i j:Int) (_:x = .int i) (_:y = .int j) (_:Q (g i j) H):rI0 g x y H Q
inductive rU (g:Int->V) (x:V) (H:Hp) (Q:VK):Prop
 |mk (i:Int) (_:x = .int i) (_:Q (g i) H):rU g x H Q
section
variable{X:Cx}{a b c:Expr}{ta tb tc:TE}{pos:Pos}
theorem ZqQ(ha:PE X a ta)(hb:PE X b tb){pins:List (Addr×Obj)}{s:Shared}{σ:St}{H:Hp}{R:V->V->Hp->Prop}(I:Inv X pins σ H s)
    (h:ta σ H λx H1=>tb σ H1 λy H2=>R x y H2) {Q:Value->Shared->Prop} {f:Value->Value->Sem Value}
    (hf:∀v u s2 x y H2,Inv X pins σ H2 s2->RelV x v->RelV y u->R x y H2->wpAny (model X.prog X.w) X.A (f v u) Q X.xe s2) :
    wpAny (model X.prog X.w) X.A (eval a X.env) (λv s₁=>wpAny (model X.prog X.w) X.A (eval b X.env) (λu s₂=>wpAny (model X.prog X.w) X.A (f v u) Q X.xe s₂) X.xe s₁) X.xe s:=by
  refine thn (ha pins s σ H _ I h) λv s1 ⟨x,H1,I1,r1,q1⟩=>?_;refine thn (hb pins s1 σ H1 _ I1 q1) λu s2 ⟨y,H2,I2,r2,q2⟩=>?_;exact hf v u s2 x y H2 I2 r1 r2 q2
theorem Zan{op:Operator}{r:R2}(ho:OpR X (binaryOp op) r)(ha:PE X a ta)(hb:PE X b tb):PE X (.BinOp a op b pos) (tOp r ta tb):=by
 intro pins s σ H Q I h;exact wpAny_BinOp (ZqQ ha hb I h λv u s2 x y H2 I2 rx ry q=>ho pins s2 σ H2 x y v u Q I2 rx ry q)
theorem Zds{op:UnaryOp}{r:V->Hp->VK->Prop}(ho:UnR X (unaryOp op) r)(ha:PE X a ta):PE X (.UnaryOp op a pos) (tUn r ta):=by
 intro pins s σ H Q I h;exact UnaryOp_ (thn (ha pins s σ H _ I h) λv s1 ⟨x,H1,I1,r1,q1⟩=>ho pins s1 σ H1 x v Q I1 r1 q1)
theorem opI{f:Value->Value->Sem Value}{C:Int->Int->Prop}{g:Int->Int->Int}
    (rule:∀(i j:Int) (t u:Tok) (s:Shared) (Q:Value->Shared->Prop) (E:Value->Shared->Prop),C i j->Q (.int (g i j) s.toks) { s with toks:=s.toks+1 }->wpAny (model X.prog X.w) X.A (f (.int i t) (.int j u)) Q E s) :
    OpR X f (rI C λi j => .int (g i j)):=by
  intro pins s σ H x y v u Q I rx ry h;obtain ⟨i,j,rfl,rfl,hc,q⟩:=h;obtain ⟨t,rfl⟩:=rx;obtain ⟨t',rfl⟩:=ry;exact rule i j t t' s _ _ hc ⟨.int (g i j),H,I.tok _,⟨_,rfl⟩,q⟩
theorem Zrz{f:Value->Value->Sem Value}{g:Int->Int->Int}
    (rule:∀(i j:Int) (t u:Tok) (s:Shared) (Q:Value->Shared->Prop) (E:Value->Shared->Prop),Q (.int (g i j) s.toks) { s with toks:=s.toks+1 }->wpAny (model X.prog X.w) X.A (f (.int i t) (.int j u)) Q E s) :
    OpR X f (rI0 λi j => .int (g i j)):=by
  intro pins s σ H x y v u Q I rx ry h;obtain ⟨i,j,rfl,rfl,q⟩:=h;obtain ⟨t,rfl⟩:=rx;obtain ⟨t',rfl⟩:=ry;exact rule i j t t' s _ _ ⟨.int (g i j),H,I.tok _,⟨_,rfl⟩,q⟩
theorem Zqz{f:Value->Value->Sem Value}{g:Int->Int->Bool}
    (rule:∀(i j:Int) (t u:Tok) (s:Shared) (Q:Value->Shared->Prop) (E:Value->Shared->Prop),Q (.bool (g i j)) s->wpAny (model X.prog X.w) X.A (f (.int i t) (.int j u)) Q E s) :
    OpR X f (rI0 λi j => .bl (g i j)):=by
  intro pins s σ H x y v u Q I rx ry h;obtain ⟨i,j,rfl,rfl,q⟩:=h;obtain ⟨t,rfl⟩:=rx;obtain ⟨t',rfl⟩:=ry;exact rule i j t t' s _ _ ⟨.bl (g i j),H,I,rfl,q⟩
def Zr4(i j:Int):Prop:=0<j/\j<1073741824
def CMul(i j:Int):Prop:=(-(2^64)<i/\i<2^64)\/(-(2^64)<j/\j<2^64)
theorem CMul.ok{i j:Int}(h:CMul i j):IntMulOk i j:=by
 rcases h with ⟨h1,h2⟩|⟨h1,h2⟩
 ·exact .of_left (intBits_le_64 h1 h2)
 ·exact .of_right (intBits_le_64 h1 h2)
theorem ZaM:OpR X (binaryOp .Add) (rI0 λi j => .int (i+j)):=Zrz λ_ _ _ _ _ _ _ q=>add_int q
theorem Zbe:OpR X (binaryOp .Sub) (rI0 λi j => .int (i-j)):=Zrz λ_ _ _ _ _ _ _ q=>sub_int q
theorem Zpu:OpR X (binaryOp .Mult) (rI CMul λi j => .int (i*j)):=opI λ_ _ _ _ _ _ _ hc q=>mul_int q hc.ok
theorem Zee:OpR X (binaryOp .FloorDiv) (rI Zr4 λi j => .int (i/j)):=opI λi j _ _ _ _ _ hc q=>by
 have h1:(0:Int)<j:=hc.1;have h2:j<1073741824:=hc.2;exact floordiv_int ⋯ (by rw[Int.fdiv_eq_ediv_of_nonneg i ⋯];exact q) (.inl (PyProof.noPylong_small ⋯))
theorem ZcU:OpR X (binaryOp .Mod) (rI (λ_ j=>0<j) λi j => .int (i%j)):=opI λi j _ _ _ _ _ hc q=>by
 have h1:(0:Int)<j:=hc;exact mod_int' ⋯ (by rw[Wm i ⋯];exact q)
theorem Zbo:OpR X (binaryOp .Mod) (rI (λ_ j=>j≠0) λi j => .int (i.fmod j)):=opI λ_ _ _ _ _ _ _ hc q=>mod_int' hc q
theorem unI{f:Value->Sem Value}{g:Int->Int}
    (rule:∀(i:Int) (t:Tok) (s:Shared) (Q:Value->Shared->Prop) (E:Value->Shared->Prop),Q (.int (g i) s.toks) { s with toks:=s.toks+1 }->wpAny (model X.prog X.w) X.A (f (.int i t)) Q E s) :
    UnR X f (rU λi => .int (g i)):=by
  intro pins s σ H x v Q I rx h;obtain ⟨i,rfl,q⟩:=h;obtain ⟨t,rfl⟩:=rx;exact rule i t s _ _ ⟨.int (g i),H,I.tok _,⟨_,rfl⟩,q⟩
theorem ZbT:UnR X (unaryOp .USub) (rU λi => .int (-i)):=unI λ_ _ _ _ _ q=>neg_int q
end
def ZrA:V->V->Bool
 | .non,.non=>true| .non,.int _=>true| .int _,.non=>true| .non,.bl _=>true| .bl _,.non=>true| .non,.str _=>true| .str _,.non=>true
 | .int _,.int _=>true| .bl _,.bl _=>true| .str _,.str _=>true| .byt _,.byt _=>true
 | .int _,.str _=>true| .str _,.int _=>true| .bl _,.str _=>true| .str _,.bl _=>true
 |_,_=>false
def rEq:R2:=λx y H Q=>ZrA x y=true/\Q (.bl (decide (x=y))) H
def rNe:R2:=λx y H Q=>ZrA x y=true/\Q (.bl (!decide (x=y))) H
theorem Zgn{i j:Int}:decide (V.int i=V.int j)=(i==j):=by
 rw[Bool.eq_iff_iff]
 simp
theorem Znr{i j:Bool}:decide (V.bl i=V.bl j)=(i==j):=by
 rw[Bool.eq_iff_iff]
 simp
theorem Zkp{i j:Str}:decide (V.str i=V.str j)=(i==j):=by
 rw[Bool.eq_iff_iff]
 simp
theorem Zkq{i j:Array UInt8}:decide (V.byt i=V.byt j)=(i.toList==j.toList):=by
 rw[Bool.eq_iff_iff]
 cases i
 cases j
 simp
section
variable{X:Cx}{a b c:Expr}{ta tb tc:TE}{pos:Pos}
theorem ZaJ{pins:List (Addr×Obj)}{σ:St}{H:Hp}{s:Shared}{Q:VK}{k k':Bool}(I:Inv X pins σ H s)(q:Q (.bl k) H)(e:k=k'):EP X pins σ Q (.bool k') s:=by
 subst e;exact ⟨.bl k,H,I,rfl,q⟩
theorem Zby:OpR X (compareOp .Eq) rEq:=by
 intro pins s σ H x y v u Q I rx ry h;obtain ⟨hs,q⟩:=h
 cases x with
 |non =>
  cases rx
  cases y with
  |non=>cases ry;exact PySem.EqNone.eq_none_none (ZaJ I q (by simp))
  |bl j=>cases ry;exact PySem.EqNone.eq_none_bool (ZaJ I q (by simp))
  |int j=>obtain ⟨t',rfl⟩:=ry;exact PySem.EqNone.eq_none_int (ZaJ I q (by simp))
  |str j=>obtain ⟨t',rfl⟩:=ry;exact PySem.EqNone.eq_none_str (ZaJ I q (by simp))
  |_=>exact absurd (show false=true from hs) Qy
 |bl i =>
  cases rx
  cases y with
  |non=>cases ry;exact PySem.EqNone.eq_bool_none (ZaJ I q (by simp))
  |bl j=>cases ry;exact eq_bool (ZaJ I q Znr)
  |str j=>obtain ⟨t',rfl⟩:=ry;exact PySem.EqMixed.eq_bool_str (ZaJ I q (by simp))
  |_=>exact absurd (show false=true from hs) Qy
 |int i =>
  obtain ⟨t,rfl⟩:=rx
  cases y with
  |non=>cases ry;exact PySem.EqNone.eq_int_none (ZaJ I q (by simp))
  |int j=>obtain ⟨t',rfl⟩:=ry;exact eq_int (ZaJ I q Zgn)
  |str j=>obtain ⟨t',rfl⟩:=ry;exact PySem.EqMixed.eq_int_str (ZaJ I q (by simp))
  |_=>exact absurd (show false=true from hs) Qy
 |str i =>
  obtain ⟨t,rfl⟩:=rx
  cases y with
  |non=>cases ry;exact PySem.EqNone.eq_str_none (ZaJ I q (by simp))
  |bl j=>cases ry;exact PySem.EqMixed.eq_str_bool (ZaJ I q (by simp))
  |int j=>obtain ⟨t',rfl⟩:=ry;exact PySem.EqMixed.eq_str_int (ZaJ I q (by simp))
  |str j=>obtain ⟨t',rfl⟩:=ry;exact eq_str (ZaJ I q Zkp)
  |_=>exact absurd (show false=true from hs) Qy
 |byt i =>
  obtain ⟨t,rfl⟩:=rx
  cases y with
  |byt j=>obtain ⟨t',rfl⟩:=ry;exact PySem.W.eq_bytes (ZaJ I q Zkq)
  |_=>exact absurd (show false=true from hs) Qy
 |_=>cases y <;> exact absurd (show false=true from hs) Qy
theorem Zgo:OpR X (compareOp .NotEq) rNe:=by
 intro pins s σ H x y v u Q I rx ry h;obtain ⟨hs,q⟩:=h
 cases x with
 |non =>
  cases rx
  cases y with
  |non=>cases ry;exact PySem.EqNone.ne_none_none (ZaJ I q (by simp))
  |bl j=>cases ry;exact PySem.EqNone.ne_none_bool (ZaJ I q (by simp))
  |int j=>obtain ⟨t',rfl⟩:=ry;exact PySem.EqNone.ne_none_int (ZaJ I q (by simp))
  |str j=>obtain ⟨t',rfl⟩:=ry;exact PySem.EqNone.ne_none_str (ZaJ I q (by simp))
  |_=>exact absurd (show false=true from hs) Qy
 |bl i =>
  cases rx
  cases y with
  |non=>cases ry;exact PySem.EqNone.ne_bool_none (ZaJ I q (by simp))
  |bl j=>cases ry;exact ne_bool (ZaJ I q (congrArg not Znr))
  |str j=>obtain ⟨t',rfl⟩:=ry;exact PySem.EqMixed.ne_bool_str (ZaJ I q (by simp))
  |_=>exact absurd (show false=true from hs) Qy
 |int i =>
  obtain ⟨t,rfl⟩:=rx
  cases y with
  |non=>cases ry;exact PySem.EqNone.ne_int_none (ZaJ I q (by simp))
  |int j=>obtain ⟨t',rfl⟩:=ry;exact ne_int (ZaJ I q (congrArg not Zgn))
  |str j=>obtain ⟨t',rfl⟩:=ry;exact PySem.EqMixed.ne_int_str (ZaJ I q (by simp))
  |_=>exact absurd (show false=true from hs) Qy
 |str i =>
  obtain ⟨t,rfl⟩:=rx
  cases y with
  |non=>cases ry;exact PySem.EqNone.ne_str_none (ZaJ I q (by simp))
  |bl j=>cases ry;exact PySem.EqMixed.ne_str_bool (ZaJ I q (by simp))
  |int j=>obtain ⟨t',rfl⟩:=ry;exact PySem.EqMixed.ne_str_int (ZaJ I q (by simp))
  |str j=>obtain ⟨t',rfl⟩:=ry;exact ne_str (ZaJ I q (congrArg not Zkp))
  |_=>exact absurd (show false=true from hs) Qy
 |byt i =>
  obtain ⟨t,rfl⟩:=rx
  cases y with
  |byt j=>obtain ⟨t',rfl⟩:=ry;exact PySem.W.ne_bytes (ZaJ I q (congrArg not Zkq))
  |_=>exact absurd (show false=true from hs) Qy
 |_=>cases y <;> exact absurd (show false=true from hs) Qy
theorem Zef:OpR X (compareOp .Lt) (rI0 λi j => .bl (decide (i<j))):=Zqz λ_ _ _ _ _ _ _ q=>lt_int q
theorem Zn8:OpR X (compareOp .LtE) (rI0 λi j => .bl (decide (i<=j))):=Zqz λ_ _ _ _ _ _ _ q=>le_int q
theorem ZfR:OpR X (compareOp .Gt) (rI0 λi j => .bl (decide (j<i))):=Zqz λ_ _ _ _ _ _ _ q=>gt_int q
theorem ZqR:OpR X (compareOp .GtE) (rI0 λi j => .bl (decide (j<=i))):=Zqz λ_ _ _ _ _ _ _ q=>ge_int q
theorem OpR.or{f:Value->Value->Sem Value}{r r':R2}(h:OpR X f r)(h':OpR X f r'):OpR X f (λx y H Q=>r x y H Q\/r' x y H Q):=by
 intro pins s σ H x y v u Q I rx ry q;rcases q with q|q
 ·exact h pins s σ H x y v u Q I rx ry q
 ·exact h' pins s σ H x y v u Q I rx ry q
theorem Zav(b:Expr){op:CmpOp}(h:op ≠ .In:=by decide)(h2:op ≠ .NotIn:=by decide):behindInMarks op b=false:=by
 have e1:(op==CmpOp.In)=false:=by cases op <;> first|rfl|exact absurd rfl h
 have e2:(op==CmpOp.NotIn)=false:=by cases op <;> first|rfl|exact absurd rfl h2
 cases b <;> simp[behindInMarks,e1,e2]
theorem Zcg{op:CmpOp}{r:R2}(ho:OpR X (compareOp op) r)(ha:PE X a ta)(hb:PE X b tb)(hm:behindInMarks op b=false):PE X (.Compare a [op] [b] pos) (tOp r ta tb):=by
 intro pins s σ H Q I h;exact wpAny_Compare1 (ZqQ ha hb I h λv u s2 x y H2 I2 rx ry q=>ho pins s2 σ H2 x y v u Q I2 rx ry q) hm
inductive Zns (x:V) (Q:Bool->Hp->Prop) (H':Hp):Prop
 |mk (k:Bool) (_:x = .bl k) (_:Q k H'):Zns x Q H'
def ZqS(t:TE):TT:=λσ H Q=>t σ H λx H'=>Zns x Q H'
theorem Zar{op:CmpOp}{r:R2}(ho:OpR X (compareOp op) r)(ha:PE X a ta)(hb:PE X b tb)(hm:behindInMarks op b=false):PT X (.Compare a [op] [b] pos) (ZqS (tOp r ta tb)):=by
 intro pins s σ H Q I h;refine wpAny_isTrue_Compare1 (thn (ha pins s σ H _ I h) λv s1 ⟨x,H1,I1,r1,q1⟩=>thn (hb pins s1 σ H1 _ I1 q1) λu s2 ⟨y,H2,I2,r2,q2⟩ =>
  thn (ho pins s2 σ H2 x y v u _ I2 r1 r2 q2) λc s3 ⟨z,H3,I3,r3,k,e,q3⟩=>?_) hm
 subst e
 cases r3
 exact wpAny_truthy_bool ⟨H3,I3,q3⟩
def Zpv(r r':R2)(ta tb tc:TE):TE:=λσ H Q=>ta σ H λx H1=>tb σ H1 λy H2=>r x y H2 λz H3=>∃k,z = .bl k ∧
 (if k=true then tc σ H3 λw' H4=>r' y w' H4 Q else Q (.bl false) H3)
theorem Zmg{op op':CmpOp}{r r':R2}(ho:OpR X (compareOp op) r)(ho':OpR X (compareOp op') r')(ha:PE X a ta)(hb:PE X b tb)(hc:PE X c tc)
    (hm:lastMarks [op,op'] [b,c]=false:=by with_unfolding_all rfl):PE X (.Compare a [op,op'] [b,c] pos) (Zpv r r' ta tb tc):=by
  intro pins s σ H Q I h;refine Compare_chain (thn (ha pins s σ H _ I h) λv s1 ⟨x,H1,I1,r1,q1⟩=>chain_link (thn (hb pins s1 σ H1 _ I1 q1) λu s2 ⟨y,H2,I2,r2,q2⟩ =>
    thn (ho pins s2 σ H2 x y v u _ I2 r1 r2 q2) λd s3 ⟨z,H3,I3,r3,k,e,q3⟩=>?_)) hm
  subst e
  cases r3
  refine wpAny_truthy_bool ?_
  cases k with
  | false=>exact ite_ff ⟨.bl false,H3,I3,rfl,q3⟩
  | true=>exact ite_tt (chain_last (thn (hc pins s3 σ H3 _ I3 q3) λw' s4 ⟨z',H4,I4,r4,q4⟩=>ho' pins s4 σ H4 y z' u w' Q I4 r2 r4 q4))
theorem Zi2:(sizeLine:Nat)<2^63:=by rw[sizeLine_eq];decide
theorem Zhi{x:V}{us:List Value}(r:Vals [x] us):∃u,us=[u]/\RelV x u:=by
 cases r with
 |cons r1 r2=>cases r2;exact ⟨_,rfl,r1⟩
theorem Zkr{x y:V}{us:List Value}(r:Vals [x,y] us):∃u w',us=[u,w']/\RelV x u/\RelV y w':=by
 cases r with
 |cons r1 r2 =>
  cases r2 with
  |cons r3 r4=>cases r4;exact ⟨_,_,rfl,r1,r3⟩
theorem Zi3:CallR X (.builtin "abs") (λxs H Q=>∃i,xs=[.int i]/\Q (.int (if i<0 then -i else i)) H):=by
 intro pins s σ H xs us Q I r h;obtain ⟨i,rfl,q⟩:=h;obtain ⟨u,rfl,t,rfl⟩:=Zhi r;exact call_abs_int λu tk=>⟨.int (if i<0 then -i else i),H,I.tok _,⟨_,rfl⟩,q⟩
theorem Zhj(hc:X.calm=true):CallR X (.builtin "max") (λxs H Q=>∃i j,xs=[.int i,.int j]/\Q (.int (if j>i then j else i)) H):=by
 intro pins s σ H xs us Q I r h;obtain ⟨i,j,rfl,q⟩:=h;obtain ⟨u,w',rfl,⟨t,rfl⟩,⟨t',rfl⟩⟩:=Zkr r;refine max_two_ints (I.ok.hd hc) λh' tk k=>⟨_,H,I.kept k,?_,q⟩
 by_cases hj:j>i
 ·rw[if_pos hj,if_pos hj];exact ⟨_,rfl⟩
 ·rw[if_neg hj,if_neg hj];exact ⟨_,rfl⟩
theorem Zhk(hc:X.calm=true):CallR X (.builtin "min") (λxs H Q=>∃i j,xs=[.int i,.int j]/\Q (.int (if j<i then j else i)) H):=by
 intro pins s σ H xs us Q I r h;obtain ⟨i,j,rfl,q⟩:=h;obtain ⟨u,w',rfl,⟨t,rfl⟩,⟨t',rfl⟩⟩:=Zkr r;refine min_two_ints (I.ok.hd hc) λh' tk k=>⟨_,H,I.kept k,?_,q⟩
 by_cases hj:j<i
 ·rw[if_pos hj,if_pos hj];exact ⟨_,rfl⟩
 ·rw[if_neg hj,if_neg hj];exact ⟨_,rfl⟩
theorem Zks:CallR X (.type "int") (λxs H Q=>(∃i,xs=[.int i]/\Q (.int i) H)\/∃k,xs=[.bl k]/\Q (.int (if k then 1 else 0)) H):=by
 intro pins s σ H xs us Q I r h;rcases h with ⟨i,rfl,q⟩|⟨k,rfl,q⟩
 ·obtain ⟨u,rfl,t,rfl⟩:=Zhi r;exact call_int_int ⟨.int i,H,I,⟨_,rfl⟩,q⟩
 ·obtain ⟨u,rfl,r1⟩:=Zhi r
  cases r1
  exact call_int_bool ⟨.int (if k then 1 else 0),H,I.tok _,⟨_,rfl⟩,q⟩
end
structure ObjM (h:Heap) (x dx C:Addr) (mA:Str->Option Value):Prop where
 obj:h.get? x=some (PySem.W.instObj C dx)
 ns:h.Ns1 dx mA
 ne:dx≠x
theorem Zkt{h:Heap}{dx:Addr}{mA:Str->Option Value}(n:h.Ns1 dx mA):∃od,h.get? dx=some od/\∀name,PySem.W.lookIn name od=some (mA name):=by
 obtain ⟨o,es,ep,ho,hd,hk,_,hm⟩:=n;refine ⟨o,ho,λname=>?_⟩;have e:=hm name;unfold nsFind findBy at e;rw[<-Array.find?_toList] at e;unfold PySem.W.lookIn;rw[hd]
 dsimp only
 split
 ·rename_i y q
  rw[q] at e;exact congrArg some e
 ·rename_i q
  rw[q] at e;have a:es.toList.any (·.refKey)=false:=by
   rw[List.any_eq_false];intro y hy;obtain ⟨z,t,hkey⟩:=hk y (Array.mem_toList_iff.mp hy)
   simp[DictEntry.refKey,hkey]
  have a':¬es.toList.any (·.refKey)=true:=by rw[a];exact Qy
  rw[if_neg a'];exact congrArg some e
theorem ObjM.look{h:Heap}{x dx C:Addr}{mA:Str->Option Value}(I:ObjM h x dx C mA):∃od,PySem.W.InstAt h x (PySem.W.instObj C dx) C (some od)/\∀name,PySem.W.lookIn name od=some (mA name) :=
 let ⟨od,ho,hl⟩:=Zkt I.ns
 ⟨od,⟨I.obj,rfl,rfl,ho⟩,hl⟩
section
variable{prog:Program}{w:World}{A:Around}{E:Value->Shared->Prop}{s:Shared}{K:ZZfg}{x dx C f:Addr}{mA:Str->Option Value}{name:Str}{v:Value}
theorem Zn9{expr:Bool}{Q:Value->Shared->Prop}(X:K.In s.heap)(I:ObjM s.heap x dx C mA)(hg:PySem.W.plainGet K C name=true)(hh:PySem.W.hasDictIn K C=true)
    (ha:PySem.W.findIn K (.ref C) name=some none) (hv:mA name=some v) (hv':PySem.W.handedIn v=true) (h:Q v { s with toks:=s.toks+1 }) :
    wpAny (model prog w) A (getAttr (.ref x) name expr) Q E s:=by
  obtain ⟨od,J,hl⟩:=I.look;exact PySem.W.get_value X J (PySem.W.plainGet_of hg).1 (PySem.W.findObj_own hh ha rfl (by rw[hl,hv])) hv' h
theorem Zmh{pl:Sem Bool}{Q:Value×List Value->Shared->Prop}(X:K.In s.heap)(I:ObjM s.heap x dx C mA)(hg:PySem.W.plainGet K C name=true)
    (hf:PySem.W.findIn K (.ref C) name=some (some (.ref f))) (ht:PySem.W.isFn K (.ref f)=true) (hv:mA name=none) (h:Q (.ref f,[.ref x]) s) :
    wpAny (model prog w) A (getMethod (.ref x) name pl) Q E s:=by
  obtain ⟨od,J,hl⟩:=I.look;exact PySem.W.method_fn X J (PySem.W.plainGet_of hg).1 (PySem.W.plainGet_of hg).2 hf (beq_iff_eq.mp ht) (by show (PySem.W.lookIn name od).map (·.isSome)=some false; rw[hl,hv]; rfl) h
theorem Zoa{ns:List Str}{Q:Unit->Shared->Prop}(X:K.In s.heap)(I:ObjM s.heap x dx C mA)
    (hs:PySem.W.findIn K (.ref C) "__setattr__" = some (some (.builtin "object.__setattr__"))) (hp:PySem.W.plainOver K C=true) (ht:PySem.W.takerIn K C name=some none) (hh:PySem.W.hasDictIn K C=true)
    (hw:PySem.Within mA ns) (hsz:ns.length<=sizeLine)
    (h:∀h',ObjM h' x dx C (λy=>if y=name then some v else mA y)->Heap.SameBut dx s.heap h'->Q () { s with heap:=h',toks:=s.toks+2 }) :
    wpAny (model prog w) A (setAttr (.ref x) name v) Q E s:=by
  obtain ⟨od,J,hl⟩:=I.look;refine PySem.W.set_plain X J hs (PySem.W.osa_open (s:={ s with toks:=s.toks+1 }) (r:=none) X J hp ht λb=>?_);obtain ⟨cd,hc,hd'⟩:=PySem.W.any_some hh;have hx:s.heap.get? x=some ⟨.ref C,some dx,.plain,#[]⟩:=I.obj;refine wpAny_bind (wpAny_pure (wpAny_bind (wpAny_bind (wpAny_loadPart hx (wpAny_bind (PySem.W.Looks.here (s:={ s with toks:=s.toks+1 }) (PySem.W.looks_clsIn X hc) ?_))))));rw[hd'];refine wpAny_pure (a:=some dx) (wpAny_bind (wpAny_pure (wpAny_bind ?_)));refine wpAny_nsSet1 (s:={ s with toks:=s.toks+1 }) I.ns λh' hn2 hs2=>?_;obtain ⟨oD,esD,epD,hoD,hdD,hcD⟩:=hn2.count (PySem.Within.cons name v hw);refine wpAny_bind (wpAny_lookBehind hoD (by rw[hdD]; exact pastItsLine_dict (Q0 hcD (by rw[List.length_cons]; omega))) ?_);exact wpAny_pure (h _ ⟨(hs2.2 _ (Ne.symm I.ne)).trans I.obj,hn2,I.ne⟩ hs2)
theorem Zmi{R:Result->Shared->Prop}{vs:List Value}{kw:List (Str×Value)}(X:K.In s.heap)(hm:PySem.W.makesIn K C=true)
    (hi:PySem.W.findIn K (.ref C) "__init__" = some (some (.ref f))) (hf:PySem.W.typeIn K (.ref f)=some (.type "function"))
    (h:codeAny (model prog w) (A.under (.builtin "type.__call__" ⟨.ref C::vs,kw⟩)) (.call (.ref f) ⟨.ref (s.heap.objs.size+1)::vs,kw⟩) (PySem.W.InitBack (s.heap.objs.size+1) R)
      { s with heap:=(s.heap.push PySem.W.emptyDict).push (PySem.W.instObj C s.heap.objs.size) }) :
    codeAny (model prog w) A (.call (.ref C) ⟨vs,kw⟩) R s:=by
  obtain ⟨hh,g,d,t,os⟩:=s;exact PySem.W.make_core (PySem.W.makes_of X hm) (PySem.W.looks_findIn X hi) (λself=>PySem.W.bind_fn X self hf) (.inl rfl) h
theorem Zku{R:Result->Shared->Prop}(X:K.In s.heap)(hm:PySem.W.makesIn K C=true)
    (hi:PySem.W.findIn K (.ref C) "__init__" = some (some (.builtin "object.__init__")))
    (hb:∀self,PySem.W.Looks (model prog w) s.heap (bindSpecial (.builtin "object.__init__") self) (.builtin "object.__init__", [self]))
    (h:codeAny (model prog w) (A.under (.builtin "type.__call__" ⟨[.ref C],[]⟩)) (.call (.builtin "object.__init__") ⟨[.ref (s.heap.objs.size+1)],[]⟩) (PySem.W.InitBack (s.heap.objs.size+1) R)
      { s with heap:=(s.heap.push PySem.W.emptyDict).push (PySem.W.instObj C s.heap.objs.size) }) :
    codeAny (model prog w) A (.call (.ref C) ⟨[],[]⟩) R s:=by
  obtain ⟨hh,g,d,t,os⟩:=s;exact PySem.W.make_core (PySem.W.makes_of X hm) (PySem.W.looks_findIn X hi) hb (.inr ⟨rfl,rfl⟩) h
end
def Zhl(f:Str)(v:V):List (Str×V)->List (Str×V)
 | []=>[(f,v)]
 |(g,x)::r=>if g=f then (g,v)::r else (g,x)::Zhl f v r
theorem Zcx(f g:Str)(v:V):∀fs:List (Str×V),(Zhl f v fs).lookup g=if g=f then some v else fs.lookup g
 | []=>by
  show List.lookup g [(f,v)]=_
  by_cases h:g=f
  ·have hb:(g==f)=true:=beq_iff_eq.mpr h
   simp only[List.lookup,hb,if_pos h]
  ·have hb:(g==f)=false:=beq_eq_false_iff_ne.mpr h
   simp only[List.lookup,hb,if_neg h]
 |(k,x)::r=>by
  have ih:=Zcx f g v r;rw[show Zhl f v ((k,x)::r)=(if k=f then (k,v)::r else (k,x)::Zhl f v r) from rfl]
  by_cases hk:k=f
  ·rw[if_pos hk]
   by_cases h:g=k
   ·have hb:(g==k)=true:=beq_iff_eq.mpr h
    simp only[List.lookup,hb,if_pos (h.trans hk)]
   ·have hb:(g==k)=false:=beq_eq_false_iff_ne.mpr h
    simp only[List.lookup,hb,if_neg (λe:g=f=>h (e.trans hk.symm))]
  ·rw[if_neg hk]
   by_cases h:g=k
   ·have hb:(g==k)=true:=beq_iff_eq.mpr h
    simp only[List.lookup,hb,if_neg (λe:g=f=>hk (h.symm.trans e))]
   ·have hb:(g==k)=false:=beq_eq_false_iff_ne.mpr h
    simp only[List.lookup,hb]
    exact ih
theorem Ze9(f:Str)(v:V):∀fs:List (Str×V),f∈(Zhl f v fs).map (·.1)/\∀g,g∈fs.map (·.1)->g∈(Zhl f v fs).map (·.1)
 | []=>⟨by simp[Zhl],λg h=>by simp at h⟩
 |(k,x)::r=>by
  obtain ⟨i1,i2⟩:=Ze9 f v r;rw[show Zhl f v ((k,x)::r)=(if k=f then (k,v)::r else (k,x)::Zhl f v r) from rfl]
  by_cases hk:k=f
  ·rw[if_pos hk];subst hk;exact ⟨by simp,λg h=>by simpa using h⟩
  ·rw[if_neg hk];refine ⟨?_,λg h=>?_⟩
   ·rw[Ur];exact Wl _ i1
   ·rw[Ur] at h ⊢;rcases Qe.mp h with e|e
    ·exact Qe.mpr (.inl e)
    ·exact Wl _ (i2 g e)
theorem Zfa(f:Str)(v:V):∀fs:List (Str×V),(Zhl f v fs).length<=fs.length+1
 | []=>by simp[Zhl]
 |(k,x)::r=>by
  have ih:=Zfa f v r;rw[show Zhl f v ((k,x)::r)=(if k=f then (k,v)::r else (k,x)::Zhl f v r) from rfl]
  by_cases hk:k=f
  ·rw[if_pos hk,List.length_cons,List.length_cons];omega
  ·rw[if_neg hk,List.length_cons,List.length_cons];omega
theorem RelO.some_of{v:V}{o:Option Value}(r:RelO (some v) o):∃u,o=some u/\RelV v u:=by
 cases o with
 |none=>exact (show False from r).elim
 |some u=>exact ⟨u,rfl,r⟩
theorem RelO.none_of{o:Option Value}(r:RelO none o):o=none:=by
 cases o with
 |none=>rfl
 |some u=>exact (show False from r).elim
theorem Zkv{v:V}{u:Value}(r:RelV v u):PySem.W.handedIn u=true:=by
 cases v with
 |non=>cases (show u=Value.none from r);rfl
 |bl b=>cases (show u=Value.bool b from r);rfl
 |int i=>obtain ⟨t,e⟩:=(show ∃t,u=Value.int i t from r);cases e;rfl
 |str x=>obtain ⟨t,e⟩:=(show ∃t,u=Value.str x t from r);cases e;rfl
 |byt b=>obtain ⟨t,e⟩:=(show ∃t,u=Value.bytes b t from r);cases e;rfl
 |flt b=>obtain ⟨t,e⟩:=(show ∃t,u=Value.float b t from r);cases e;rfl
 |ref a=>cases (show u=Value.ref a from r);rfl
 |ty n=>cases (show u=Value.type n from r);rfl
section
variable{P:Program}{w:World}{H H':Hp}{h h':Heap}{a C dx:Addr}{fs fs':List (Str×V)}
theorem Zfb(hok:HOk P w H h)(e:H a=some (.ins C dx fs)):∃mA,ObjM h a dx C mA/\(∀f,RelO (fs.lookup f) (mA f))/\PySem.Within mA (fs.map (·.1))/\fs.length<=1000/\H dx=some (.own a):=by
 obtain ⟨d,z,ne,ob,mA,n,r,q⟩:=(show ObjOk P w H h a (.ins C dx fs) from hok a _ e);exact ⟨mA,⟨ob,n,ne⟩,r,q,z,d⟩
end
structure Cls (K:ZZfg) (C:Addr):Prop where
 pg:PySem.W.plainGet K C Str.empty=true
 hd:PySem.W.hasDictIn K C=true
 po:PySem.W.plainOver K C=true
 sa:PySem.W.findIn K (.ref C) "__setattr__"=some (some (.builtin "object.__setattr__"))
theorem Cls.get{K:ZZfg}{C:Addr}(c:Cls K C)(f:Str):PySem.W.plainGet K C f=true:=c.pg
def NoAttr(K:ZZfg)(C:Addr)(f:Str):Prop:=PySem.W.findIn K (.ref C) f=some none
theorem NoAttr.taker{K:ZZfg}{C:Addr}{f:Str}(n:NoAttr K C f):PySem.W.takerIn K C f=some none:=by
 unfold PySem.W.takerIn;rw[show PySem.W.findIn K (.ref C) f=some none from n]
 rfl
structure Con (K:ZZfg) (C:Addr) (f:Str) (v:V) (u:Value):Prop where
 at_:PySem.W.findIn K (.ref C) f=some (some u)
 rel:RelV v u
 get:PySem.W.specialIn K u "__get__"=some none
 cp:PySem.W.copiedNames.contains f=false
structure Meth (K:ZZfg) (C:Addr) (m:Str) (f:Addr):Prop where
 at_:PySem.W.findIn K (.ref C) m=some (some (.ref f))
 fn:PySem.W.isFn K (.ref f)=true
 kp:PySem.W.keepIn K (.ref f)=true
section
variable{X:Cx}{pins:List (Addr×Obj)}{σ:St}{H:Hp}{s:Shared}{a C dx:Addr}{fs:List (Str×V)}{f:Str}{v:V}{A:Around}{E:Value->Shared->Prop}
theorem ZjF{b:Bool}{Q:Value->Shared->Prop}(I:Inv X pins σ H s)(e:H a=some (.ins C dx fs))(c:Cls X.K C)(n:NoAttr X.K C f)(l:fs.lookup f=some v)
    (h:∀u s',Inv X pins σ H s'->RelV v u->Q u s'):wpAny (model X.prog X.w) A (getAttr (.ref a) f b) Q E s:=by
  obtain ⟨mA,O,r,_,_,_⟩:=Zfb I.hok e;obtain ⟨u,hu,ru⟩:=RelO.some_of (v:=v) (o:=mA f) (by rw[<-l]; exact r f);exact Zn9 I.kIn O (c.get f) c.hd n hu (Zkv ru) (h u _ (I.tok _) ru)
theorem Zga{m:Str}{g:Addr}{pl:Sem Bool}{Q:Value×List Value->Shared->Prop}(I:Inv X pins σ H s)(e:H a=some (.ins C dx fs))(c:Cls X.K C)(k:Meth X.K C m g)(l:fs.lookup m=none)
    (h:Q (.ref g,[.ref a]) s):wpAny (model X.prog X.w) A (getMethod (.ref a) m pl) Q E s:=by
  obtain ⟨mA,O,r,_,_,_⟩:=Zfb I.hok e;have hn:mA m=none:=RelO.none_of (by rw[<-l]; exact r m);exact Zmh I.kIn O (c.get m) k.at_ k.fn hn h
theorem ZjG{y:V}{u:Value}{Q:Unit->Shared->Prop}(I:Inv X pins σ H s)(e:H a=some (.ins C dx fs))(c:Cls X.K C)(n:NoAttr X.K C f)(hl:fs.length<1000)(ry:RelV y u)
    (h:∀s',Inv X pins σ (upd H a (.ins C dx (Zhl f y fs))) s'->Q () s'):wpAny (model X.prog X.w) A (setAttr (.ref a) f u) Q E s:=by
  obtain ⟨mA,O,r,wi,_,ho⟩:=Zfb I.hok e;have hz:(fs.map (·.1)).length<=sizeLine:=by rw[Q2,sizeLine_eq]; omega
  refine Zoa I.kIn O c.sa c.po n.taker c.hd wi hz λh' O' sb=>h _ ?_;have hd:∃o,h'.get? dx=some o:=let ⟨o,_,_,e',_⟩:=O'.ns; ⟨o,e'⟩;refine I.write (x:=a) (e:=dx) (by rw[e]; exact True.intro) (.inr ho) (λb q hb z=>(sb.2 b hb).trans z) hd ?_;refine ⟨by rw[Zau O.ne]; exact ho,?_,O.ne,O'.obj,_,O'.ns,λg=>?_,λg hg=>?_⟩
  · have:=Zfa f y fs; omega
  · show RelO ((Zhl f y fs).lookup g) (if g=f then some u else mA g)
    rw[Zcx]
    by_cases q:g=f
    · rw[if_pos q,if_pos q]; exact ry
    · rw[if_neg q,if_neg q]; exact r g
  · by_cases q:g=f
    · rw[q]; exact (Ze9 f y fs).1
    · refine (Ze9 f y fs).2 g (wi g λz=>hg ?_)
      show (if g=f then some u else mA g)=none;rw[if_neg q]; exact z
theorem Inv.made(I:Inv X pins σ H s):Inv X pins σ (upd (upd H s.heap.objs.size (.own (s.heap.objs.size+1))) (s.heap.objs.size+1) (.ins C s.heap.objs.size []))
    { s with heap:=(s.heap.push PySem.W.emptyDict).push (PySem.W.instObj C s.heap.objs.size) }:=by
  have e1:(s.heap.push PySem.W.emptyDict).get? s.heap.objs.size=some PySem.W.emptyDict:=Heap.get?_push_size s.heap rfl;have e2:((s.heap.push PySem.W.emptyDict).push (PySem.W.instObj C s.heap.objs.size)).get? (s.heap.objs.size+1)=some (PySem.W.instObj C s.heap.objs.size):=by
    have:=Heap.get?_push_size (s.heap.push PySem.W.emptyDict) (o:=PySem.W.instObj C s.heap.objs.size) rfl
    rwa [Heap.size_push] at this
  have e3:(s.heap.push PySem.W.emptyDict).Ns s.heap.objs.size (λ_=>none):=⟨PySem.W.emptyDict,#[],_,e1,rfl,(λe he=>absurd he (by simp)),λ_=>rfl⟩;have I1:=I.laid (a:=s.heap.objs.size) (o:=.own (s.heap.objs.size+1)) (h':=s.heap.push PySem.W.emptyDict) (t':=s.toks) (λb u q=>Heap.get?_push_of_some _ q) (Q3 _) ⟨_,e1⟩;refine I1.laid (a:=s.heap.objs.size+1) (o:=.ins C s.heap.objs.size []) (t':=s.toks) (λb u q=>Heap.get?_push_of_some _ q) (Ui (Heap.size_push _ _)) ?_;have ne:s.heap.objs.size≠s.heap.objs.size+1:=Qi (Nat.lt_succ_self _);refine ⟨by rw[Zau ne,Zaf],Qf _,ne,e2,λ_=>none,(Heap.Ns1.of_empty e3).at λo q=>Heap.get?_push_of_some _ q,λ_=>True.intro,λy hy=>absurd rfl hy⟩
theorem Zob{prog:Program}{w:World}{env:Env}{e:Expr}{f:Str}{pos:Pos}{s:Shared}{Q:Value->Shared->Prop}(hb:attributeBase e f env (eval e env)=eval e env)
    (h:wpAny (model prog w) A (eval e env) (λo s₁=>wpAny (model prog w) A (getAttr o f true) Q E s₁) E s):wpAny (model prog w) A (eval (.Attribute e f pos) env) Q E s :=
  Attribute_any_ h (by rw[arm_eval_Attribute,hb])
end
inductive Zpw (K:ZZfg) (f:Str) (x:V) (H1:Hp) (Q:VK):Prop
 |mk (a C:Addr) (dx:_) (fs:_) (v:V) (_:x = .ref a) (_:H1 a=some (.ins C dx fs)) (_:Cls K C) (_:NoAttr K C f) (_:fs.lookup f=some v) (_:Q v H1):Zpw K f x H1 Q
def ZrB(K:ZZfg)(ta:TE)(f:Str):TE:=λσ H Q=>ta σ H λx H1=>Zpw K f x H1 Q
def Zr5(K:ZZfg)(ta tv:TE)(f:Str):TS:=λD σ H=>tv σ H λy H1=>ta σ H1 λx H2=>∃a C dx fs,x = .ref a/\H2 a=some (.ins C dx fs)/\Cls K C/\NoAttr K C f/\fs.length<1000 ∧
 D.nx σ (upd H2 a (.ins C dx (Zhl f y fs)))
section
variable{X:Cx}{o e value:Expr}{f:Str}{pos pos' tpos:Pos}{ta tv:TE}
theorem Zdv(he:PE X e ta)(hb:attributeBase e f X.env (eval e X.env)=eval e X.env):PE X (.Attribute e f pos) (ZrB X.K ta f):=by
 intro pins s σ H Q I h;refine Zob hb (thn (he pins s σ H _ I h) λu s1 ⟨x,H1,I1,rx,a,C,dx,fs,v,ex,ea,c,n,l,q⟩=>?_);subst ex;obtain rfl:u=Value.ref a:=rx;exact ZjF I1 ea c n l λu' s2 I2 ru=>⟨v,H1,I2,ru,q⟩
theorem Znt(ha:PE X o ta)(hv:PE X value tv)(hs:swapsWith value (some (.Attribute o f pos')) pos.line X.env=pure false):PS X (.Assign [.Attribute o f pos'] value pos) (Zr5 X.K ta tv f):=by
 intro pins s σ H D I h;refine plainObj_wpAny_Assign_Attribute (thn (hv pins s σ H _ I h) λu s1 ⟨y,H1,I1,ry,q⟩=>thn (ha pins s1 σ H1 _ I1 q) λov s2 ⟨x,H2,I2,rx,a,C,dx,fs,ex,ea,c,n,l,q2⟩=>?_) hs;subst ex;obtain rfl:ov=Value.ref a:=rx;exact ZjG I2 ea c n l ry λs3 I3=>⟨σ,_,I3,q2⟩
end
section
variable{X:Cx}{pins:List (Addr×Obj)}{σ:St}{H:Hp}{s:Shared}{A:Around}{E:Value->Shared->Prop}{Q:Value->Shared->Prop}{c:Value}{b:Bool}
inductive Zi4 (K:ZZfg) (H:Hp):V->Value->Prop where
  | non:Zi4 K H .non (.type "NoneType")
  | bl (x:Bool):Zi4 K H (.bl x) (.type "bool")
  | int (i:Int):Zi4 K H (.int i) (.type "int")
  | str (x:Str):Zi4 K H (.str x) (.type "str")
  | flt (x:UInt64):Zi4 K H (.flt x) (.type "float")
  | lst {a:Addr} {xs:List V} (e:H a=some (.lst xs)):Zi4 K H (.ref a) (.type "list")
  | frz {a:Addr} {o:Obj} {xs:List V} (e:H a=some (.frz o (.lst xs))):Zi4 K H (.ref a) (.type "list")
  | tup {a:Addr} {xs:List V} (e:H a=some (.tup xs)):Zi4 K H (.ref a) (.type "tuple")
  | dK {a:Addr} {kvs:List (Key×V)} (e:H a=some (.dK kvs)):Zi4 K H (.ref a) (.type "dict")
  | dT {a:Addr} {kvs:List (List Key×V)} (e:H a=some (.dT kvs)):Zi4 K H (.ref a) (.type "dict")
  | ins {a C dx:Addr} {fs:List (Str×V)} (e:H a=some (.ins C dx fs)) (cl:Cls K C) (ha:PySem.W.findIn K (.ref C) "__class__" = some (some (.builtin "object.__class__")))
      (hn:PySem.W.specialIn K (.builtin "object.__class__") "__get__" = some (some (.builtin "getset_descriptor.__get__"))) (htk:PySem.W.takesIn K (.builtin "object.__class__")=some true)
      (hm:PySem.W.mroIn K C (.type "object")=some true):Zi4 K H (.ref a) (.ref C)
theorem Zkw{x:V}{u t:Value}(I:Inv X pins σ H s)(rx:RelV x u)(ty:Zi4 X.K H x t)(e:PySem.W.kitOne X.K t c=some b)(h:∀tk,Q (.bool b) { s with toks:=tk }) :
    wpAny (model X.prog X.w) A (call (.builtin "isinstance") [u,c]) Q E s:=by
  cases ty with
  | non=>cases (show u=Value.none from rx); exact PySem.W.kia_one PySem.W.kitx_none I.kIn True.intro e (λz=>nomatch z) h
  | bl y=>cases (show u=Value.bool y from rx); exact PySem.W.kia_one PySem.W.kitx_bool I.kIn True.intro e (λz=>nomatch z) h
  | int i=>obtain ⟨t,q⟩:=(show ∃t,u=Value.int i t from rx); cases q; exact PySem.W.kia_one PySem.W.kitx_int I.kIn True.intro e (λz=>nomatch z) h
  | str y=>obtain ⟨t,q⟩:=(show ∃t,u=Value.str y t from rx); cases q; exact PySem.W.kia_one PySem.W.kitx_str I.kIn True.intro e (λz=>nomatch z) h
  | flt y=>obtain ⟨t,q⟩:=(show ∃t,u=Value.float y t from rx); cases q; exact PySem.W.kia_one PySem.W.kitx_float I.kIn True.intro e (λz=>nomatch z) h
  | @lst a xs ea =>
    cases (show u=Value.ref a from rx)
    obtain ⟨_,_,n,_,h1⟩:=(show ObjOk X.prog X.w H s.heap a (.lst xs) from I.hok a _ ea);exact PySem.W.kia_one PySem.W.kitx_list I.kIn ⟨_,h1,rfl⟩ e (λz=>nomatch z) h
  | @frz a ob xs ea =>
    cases (show u=Value.ref a from rx)
    obtain ⟨_,_,_,n,_,h1⟩:=(show ObjOk X.prog X.w H s.heap a (.frz ob (.lst xs)) from I.hok a _ ea);exact PySem.W.kia_one PySem.W.kitx_list I.kIn ⟨_,h1,rfl⟩ e (λz=>nomatch z) h
  | @tup a xs ea =>
    cases (show u=Value.ref a from rx)
    obtain ⟨_,_,_,p⟩:=(show ObjOk X.prog X.w H s.heap a (.tup xs) from I.hok a _ ea);obtain ⟨o,h1,h2,_⟩:=p;exact PySem.W.kia_one PySem.W.kitx_tuple I.kIn ⟨o,h1,h2⟩ e (λz=>nomatch z) h
  | @dK a kvs ea =>
    cases (show u=Value.ref a from rx)
    obtain ⟨_,_,vs,_,p⟩:=(show ObjOk X.prog X.w H s.heap a (.dK kvs) from I.hok a _ ea);obtain ⟨o,es,ep,h1,h2,_⟩:=p;exact PySem.W.kia_one PySem.W.kitx_dict I.kIn ⟨o,h1,h2.1⟩ e (λz=>nomatch z) h
  | @dT a kvs ea =>
    cases (show u=Value.ref a from rx)
    obtain ⟨_,_,xs,_,o,es,ep,h1,h2,_⟩:=(show ObjOk X.prog X.w H s.heap a (.dT kvs) from I.hok a _ ea);exact PySem.W.kia_one PySem.W.kitx_dict I.kIn ⟨o,h1,h2.1⟩ e (λz=>nomatch z) h
  | @ins a C dx fs ea cl ha hn htk hm =>
    cases (show u=Value.ref a from rx)
    obtain ⟨mA,O,_⟩:=Zfb I.hok ea;obtain ⟨od,J,_⟩:=O.look;exact PySem.W.kia_one (PySem.W.kitx_own (cl.get _) cl.hd ha hn htk hm) I.kIn J e (λz=>nomatch z) h
end
structure Room (k:Nat) (A:Around):Prop where
 hd:A.handled=none
 dp:A.depth+3*k+5<recursionLimit
 un:A.units+16*k+200<cLine
theorem Room.mono{j k:Nat}{A:Around}(r:Room k A)(h:j<=k):Room j A:=⟨r.hd,by have:=r.dp;omega,by have:=r.un;omega⟩
theorem Room.deeper{k:Nat}{A:Around}(r:Room (k+1) A)(env:Env):Room k (A.deeper env) :=
 ⟨r.hd,by have:=r.dp;show A.depth+1+3*k+5<_;omega,by have:=r.un;show A.units+3+16*k+200<_;omega⟩
theorem Room.in1{k:Nat}{A:Around}(r:Room (k+1) A):Room k A.in1 :=
 ⟨r.hd,by have:=r.dp;show A.depth+3*k+5<_;omega,by have:=r.un;show A.units+1+16*k+200<_;omega⟩
theorem ZjH{A:Around}{C:Addr}{us:List Value}{kw:List (Str×Value)}:(A.under (.builtin "type.__call__" ⟨.ref C::us,kw⟩)).depth=A.depth+1:=by
 first|rfl|simp[Around.under,Code.weight,Code.isCreation,Code.isGuard,Code.isCaller,Code.frames,Code.isFrame,guardIds]
theorem ZjI{A:Around}{C:Addr}{us:List Value}{kw:List (Str×Value)}:(A.under (.builtin "type.__call__" ⟨.ref C::us,kw⟩)).units=A.units+1:=by
 first|rfl|simp[Around.under,Code.cUnits,Code.frames,Code.isFrame]
theorem Room.make{k:Nat}{A:Around}(r:Room (k+1) A)(C:Addr)(us:List Value)(kw:List (Str×Value)):Room k (A.under (.builtin "type.__call__" ⟨.ref C::us,kw⟩)) :=
 ⟨r.hd,by have:=r.dp;rw[ZjH];omega,by have:=r.un;rw[ZjI];omega⟩
theorem Room.depth{k:Nat}{A:Around}(r:Room k A):A.depth<recursionLimit:=by have:=r.dp;omega
theorem Room.units{k:Nat}{A:Around}(r:Room k A):A.units+64<cLine:=by have:=r.un;omega
def Zr6:TA:=λ_ H Q=>Q [] H
def ZqT(ta:TE)(tr:TA):TA:=λσ H Q=>ta σ H λx H1=>tr σ H1 λxs H2=>Q (x::xs) H2
section
variable{X:Cx}{e:Expr}{es:List Expr}{te:TE}{t:TA}{pos:Pos}
theorem Zab:PA X [] Zr6:=λ_ _ _ _ H Q I h=>Calls.spliced_nil ⟨[],H,I,.nil,h⟩
theorem Zaa(ha:PE X e te)(hr:PA X es t)(hs:starEach (e::es) X.env=(false,eval e X.env)::starEach es X.env:=by rfl):PA X (e::es) (ZqT te t):=by
 intro pos pins s σ H Q I h;rw[hs];show wpAny _ _ (spliced ((false,eval e X.env)::backTo pos (starEach es X.env))) _ _ s;refine Calls.spliced_cons (thn (ha pins s σ H _ I h) λu s1 ⟨x,H1,I1,r1,q1⟩=>?_);exact thn (hr pos pins s1 σ H1 _ I1 q1) λus s2 ⟨xs,H2,I2,r2,q2⟩=>⟨x::xs,H2,I2,.cons r1 r2,q2⟩
def Zr7(t:TA):TE:=λσ H Q=>t σ H λxs H1=>xs.length<=sizeLine/\∀p,H1 p=none->Q (.ref p) (upd H1 p (.tup xs))
def Zr8(t:TA):TE:=λσ H Q=>t σ H λxs H1=>xs.length<=sizeLine/\∀p,H1 p=none->Q (.ref p) (upd H1 p (.lst xs))
theorem ZbU{x1}(h:PA X es t):PE X (.Tuple es x1 pos) (Zr7 t):=by
 intro pins s σ H Q I hq;refine wpAny_Tuple_spliced (thn (h pos pins s σ H _ I hq) λus s1 ⟨xs,H1,I1,r,z,q⟩=>⟨by rw[<-r.length];exact z,?_⟩);have hf:H1 s1.heap.objs.size=none:=I1.hok.fresh (Q3 _);refine ⟨.ref s1.heap.objs.size,upd H1 s1.heap.objs.size (.tup xs),I1.laid (t':=s1.toks) (λb u e=>Heap.get?_push_of_some _ e) (Q3 _) ?_,rfl,q _ hf⟩;exact ⟨z,us,r,⟨_,Heap.get?_push_size _ rfl,rfl,_,rfl⟩⟩
theorem ZaN(h:PA X es t):PE X (.List es pos) (Zr8 t):=by
 intro pins s σ H Q I hq;refine wpAny_List_spliced (thn (h pos pins s σ H _ I hq) λus s1 ⟨xs,H1,I1,r,z,q⟩=>⟨by rw[<-r.length];exact z,?_⟩);have hf:H1 s1.heap.objs.size=none:=I1.hok.fresh (Q3 _);refine ⟨.ref s1.heap.objs.size,upd H1 s1.heap.objs.size (.lst xs),I1.laid (t':=s1.toks) (λb u e=>Heap.get?_push_of_some _ e) (Q3 _) ?_,rfl,q _ hf⟩;exact ⟨z,us,0,r,Heap.get?_push_size _ rfl⟩
end
abbrev Sp:=List V->Hp->VK->XK->Prop
abbrev CXT:=List Env->Hp->Shared->XK->Value->Shared->Prop
structure Env0 (P:Program) (w:World) (K:ZZfg) (mg:ZZmg) (base:Heap) (A:Around) (outer:List Env) (s:Shared) (H:Hp):Prop where
 frames:A.frames=some outer
 mod:Mod K mg base
 bs:∀b o,base.get? b=some o->s.heap.get? b=some o/\H b=none
 bsz:base.objs.size<=s.heap.objs.size
 funs:s.heap.FunFrames base outer
 frf:∀b∈frs outer,H b=none
 hok:HOk P w H s.heap
 bare:AllBare s.gens
def CE(outer:List Env)(P:Program)(w:World)(H:Hp)(s:Shared)(Q:VK)(u:Value)(s':Shared):Prop :=
 ∃v H',s'.os=s.os/\AllBare s'.gens/\Un (frs outer) [] H H' s.heap s'.heap/\HOk P w H' s'.heap/\RelV v u/\Q v H'
def CR(CX:CXT)(outer:List Env)(P:Program)(w:World)(H:Hp)(s:Shared)(Q:VK)(E:XK)(r:Result)(s':Shared):Prop :=
 match r with
 | .ok (.ret u)=>CE outer P w H s Q u s'
 | .ok _=>False
 | .error e=>CX outer H s E e s'
structure FnOk (P:Program) (w:World) (K:ZZfg) (mg:ZZmg) (base:Heap) (CX:CXT) (k:Nat) (f:Addr) (fd:FuncData) (ps:List Str) (sp:Sp):Prop where
 len:∀vs H Q E,sp vs H Q E->vs.length=ps.length
 run:∀(A:Around) (outer:List Env) (s:Shared) (H:Hp) (args:Args) (us:List Value) (vs:List V) (Q:VK) (E:XK),Room k A->Env0 P w K mg base A outer s H->BindsTo s fd args (ps.zip us)->Vals vs us->sp vs H Q E →
  codeAny (model P w) A (.call (.ref f) args) (CR CX outer P w H s Q E) s
theorem FnOk.mono{P:Program}{w:World}{K:ZZfg}{mg:ZZmg}{base:Heap}{CX:CXT}{j k:Nat}{f:Addr}{fd:FuncData}{ps:List Str}{sp:Sp}(F:FnOk P w K mg base CX j f fd ps sp)(h:j<=k) :
    FnOk P w K mg base CX k f fd ps sp:=⟨F.len,λA outer s H args us vs Q E hr=>F.run A outer s H args us vs Q E (hr.mono h)⟩
theorem FnOk.imp{P:Program}{w:World}{K:ZZfg}{mg:ZZmg}{base:Heap}{CX:CXT}{k:Nat}{f:Addr}{fd:FuncData}{ps:List Str}{sp sp':Sp}(F:FnOk P w K mg base CX k f fd ps sp)
    (h:∀vs H Q E,sp' vs H Q E->sp vs H Q E):FnOk P w K mg base CX k f fd ps sp' :=
  ⟨λvs H Q E q=>F.len vs H Q E (h _ _ _ _ q),λA outer s H args us vs Q E hr he hb hv hs=>F.run A outer s H args us vs Q E hr he hb hv (h _ _ _ _ hs)⟩
theorem Env0.make{P:Program}{w:World}{K:ZZfg}{mg:ZZmg}{base:Heap}{A:Around}{outer:List Env}{s:Shared}{H:Hp}(e:Env0 P w K mg base A outer s H)(C:Addr)(us:List Value)(kw:List (Str×Value)) :
    Env0 P w K mg base (A.under (.builtin "type.__call__" ⟨.ref C::us,kw⟩)) outer s H:=⟨by first | exact e.frames | (simpa [Around.under,Code.envs,Code.isFrame,pushEnvs] using e.frames),e.mod,e.bs,e.bsz,e.funs,e.frf,e.hok,e.bare⟩
theorem Env0.in1{P:Program}{w:World}{K:ZZfg}{mg:ZZmg}{base:Heap}{A:Around}{outer:List Env}{s:Shared}{H:Hp}(e:Env0 P w K mg base A outer s H) :
    Env0 P w K mg base A.in1 outer s H:=⟨e.frames,e.mod,e.bs,e.bsz,e.funs,e.frf,e.hok,e.bare⟩
section
variable{X:Cx}{pins:List (Addr×Obj)}{σ:St}{H:Hp}{s s':Shared}
theorem Inv.env0(I:Inv X pins σ H s):Env0 X.prog X.w X.K X.mg X.base X.A X.stack s H :=
 ⟨I.ok.frames,I.ok.mod,I.bs,Q0 I.ok.bsz I.sz,I.stack,I.stkFree,I.hok,I.bare⟩
theorem Inv.after{Q:VK}{u:Value}(I:Inv X pins σ H s)(h:CE X.stack X.prog X.w H s Q u s'):EP X pins σ Q u s':=by
 obtain ⟨v,H',os,bare,un,hok,r,q⟩:=h;obtain ⟨hh,g,d,t,os'⟩:=s';obtain rfl:os'=s.os:=os;exact ⟨v,H',I.call (h':=hh) (g':=g) (d':=d) (t':=t) (ch:=[]) un hok bare (λb z=>absurd z (by simp)),r,q⟩
end
def Zpx(sp:Sp)(dvs:List V)(E:XK)(t:TA):TE:=λσ H Q=>t σ H λvs H1=>sp (vs++dvs) H1 Q E
def Zpy(C:Addr)(sp:Sp)(dvs:List V)(E:XK)(t:TA):TE:=λσ H Q=>t σ H λvs H1=>∀x dx,H1 x=none->H1 dx=none->dx≠x →
 sp (.ref x::(vs++dvs)) (upd (upd H1 dx (.own x)) x (.ins C dx [])) (λv H2=>v = .non/\Q (.ref x) H2) E
def Binds(K:ZZfg)(fd:FuncData)(ps:List Str)(ds:List Value):Prop :=
 ∀(s:Shared) (us:List Value),K.In s.heap->(us++ds).length=ps.length->BindsTo s fd ⟨us,[]⟩ (ps.zip (us++ds))
theorem Binds.all{K:ZZfg}{fd:FuncData}{ps:List Str}(h:∀us:List Value,us.length=ps.length->bindArgs fd ⟨us,[]⟩=pure (ps.zip us)):Binds K fd ps []:=λs us _ hl=>by
 rw[Us] at hl ⊢;exact .of_eq (h us hl)
def Zhm(CX:CXT)(X:Cx)(E:XK):Prop:=∀(pins:List (Addr×Obj)) (σ:St) (H:Hp) (s:Shared) (e:Value) (s':Shared),Inv X pins σ H s->CX X.stack H s E e s'->X.xe e s'
section
variable{X:Cx}{CX:CXT}{k:Nat}{f C:Addr}{fd:FuncData}{ps:List Str}{sp:Sp}{dvs:List V}{ds:List Value}{E:XK}{x m:Str}{p pos apos:Pos}{e o:Expr}{es:List Expr}{ta:TE}{t:TA}
theorem Znu{pins:List (Addr×Obj)}{σ:St}{H:Hp}{s:Shared}{Q:VK}{us:List Value}{vs:List V}(F:FnOk X.prog X.w X.K X.mg X.base CX k f fd ps sp)(hr:Room k X.A)(hb:Binds X.K fd ps ds)(hd:Vals dvs ds)(hx:Zhm CX X E)
    (I:Inv X pins σ H s) (r:Vals vs us) (h:sp (vs++dvs) H Q E):wpAny (model X.prog X.w) X.A (call (.ref f) us) (EP X pins σ Q) X.xe s:=by
  have r2:Vals (vs++dvs) (us++ds):=r.append hd;have hl:(us++ds).length=ps.length:=by rw[<-r2.length]; exact F.len _ _ _ _ h
  refine wpAny_call (codeAny_mono (F.run X.A X.stack s H ⟨us,[]⟩ (us++ds) (vs++dvs) Q E hr I.env0 (hb s us I.kIn hl) r2 h) λr s' hq=>?_)
  cases r with
  | error e=>exact hx pins σ H s e s' I hq
  | ok fl =>
    cases fl with
    | ret u=>exact I.after hq
    | next=>exact False.elim hq
    | brk=>exact False.elim hq
    | cont=>exact False.elim hq
theorem Zoc(F:FnOk X.prog X.w X.K X.mg X.base CX k f fd ps sp)(hr:Room k X.A)(hg:Gl X x)(hm:X.mg x=some (.ref f))(hk:PySem.W.keepIn X.K (.ref f)=true)(hb:Binds X.K fd ps ds)(hd:Vals dvs ds)(hx:Zhm CX X E)
    (ha:PA X (e::es) t) (hdb:(x==("__debug__" : Str))=false:=by decide) (he:starEach (e::es) X.env=(false,eval e X.env)::starEach es X.env:=by rfl) (hpl:(backTo pos (starEach es X.env)).any (·.1)=false:=by rfl) :
    PE X (.Call (.Name x p) (e::es) [] pos) (Zpx sp dvs E t):=by
  intro pins s σ H Q I h;refine wpAny_Call_Name_kw (Zdy I hg hm ?_ hdb);refine PySem.W.callWith_K (h₀:=X.base) I.ok.mod.kin hk (thn (ha pos pins s σ H _ I h) λus s1 ⟨vs,H1,I1,r,q⟩=>⟨I1.kIn,?_⟩) he hpl;exact Znu F hr hb hd hx I1 r q
structure Mk (K:ZZfg) (C f:Addr):Prop where
 makes:PySem.W.makesIn K C=true
 init:PySem.W.findIn K (.ref C) "__init__"=some (some (.ref f))
 fn:PySem.W.isFn K (.ref f)=true
 kp:PySem.W.keepIn K (.ref C)=true
theorem Zmj{pins:List (Addr×Obj)}{σ:St}{H:Hp}{s:Shared}{Q:VK}{us:List Value}{vs:List V}(M:Mk X.K C f)(F:FnOk X.prog X.w X.K X.mg X.base CX k f fd ps sp)(hr:Room (k+1) X.A)(hb:Binds X.K fd ps ds)(hd:Vals dvs ds)
    (hx:Zhm CX X E) (I:Inv X pins σ H s) (r:Vals vs us)
    (h:∀x dx,H x=none->H dx=none->dx≠x->sp (.ref x::(vs++dvs)) (upd (upd H dx (.own x)) x (.ins C dx [])) (λv H2=>v = .non/\Q (.ref x) H2) E) :
    wpAny (model X.prog X.w) X.A (call (.ref C) us) (EP X pins σ Q) X.xe s:=by
  have hq:=h (s.heap.objs.size+1) s.heap.objs.size (I.hok.fresh (Nat.le_succ _)) (I.hok.fresh (Q3 _)) (Qi (Nat.lt_succ_self _));have I2:=Inv.made (C:=C) I;have r2:Vals (V.ref (s.heap.objs.size+1)::(vs++dvs)) (Value.ref (s.heap.objs.size+1)::(us++ds)):=.cons rfl (r.append hd);have hl:(Value.ref (s.heap.objs.size+1)::us++ds).length=ps.length:=by
    have e:=r2.length;rw[F.len _ _ _ _ hq] at e;exact e.symm
  refine wpAny_call (Zmi (f:=f) I.kIn M.makes M.init (beq_iff_eq.mp M.fn) (codeAny_mono (F.run _ X.stack _ _ ⟨Value.ref (s.heap.objs.size+1)::us,[]⟩ (Value.ref (s.heap.objs.size+1)::(us++ds)) _ _ E (hr.make C us [])
    (I2.env0.make C us []) (hb _ (Value.ref (s.heap.objs.size+1)::us) I2.kIn hl) r2 hq) λr s' hq'=>?_))
  cases r with
  | error e=>exact hx pins σ _ _ e s' I2 hq'
  | ok fl =>
    cases fl with
    | ret u =>
      obtain ⟨v,H',I3,rv,ev,q3⟩:=I2.after hq';subst ev;exact ⟨rv,⟨V.ref (s.heap.objs.size+1),H',I3,rfl,q3⟩⟩
    | next=>exact False.elim hq'
    | brk=>exact False.elim hq'
    | cont=>exact False.elim hq'
theorem Zod(M:Mk X.K C f)(F:FnOk X.prog X.w X.K X.mg X.base CX k f fd ps sp)(hr:Room (k+1) X.A)(hg:Gl X x)(hm:X.mg x=some (.ref C))(hb:Binds X.K fd ps ds)(hd:Vals dvs ds)(hx:Zhm CX X E)
    (ha:PA X (e::es) t) (hdb:(x==("__debug__" : Str))=false:=by decide) (he:starEach (e::es) X.env=(false,eval e X.env)::starEach es X.env:=by rfl) (hpl:(backTo pos (starEach es X.env)).any (·.1)=false:=by rfl) :
    PE X (.Call (.Name x p) (e::es) [] pos) (Zpy C sp dvs E t):=by
  intro pins s σ H Q I h;refine wpAny_Call_Name_kw (Zdy I hg hm ?_ hdb);refine PySem.W.callWith_K (h₀:=X.base) I.ok.mod.kin M.kp (thn (ha pos pins s σ H _ I h) λus s1 ⟨vs,H1,I1,r,q⟩=>⟨I1.kIn,?_⟩) he hpl;exact Zmj M F hr hb hd hx I1 r q
end
section
variable{X:Cx}{CX:CXT}{k:Nat}{f C:Addr}{fd:FuncData}{ps ks:List Str}{sp:Sp}{E:XK}{x m:Str}{p pos apos kpos:Pos}{e o:Expr}{es:List Expr}{kws:List Keyword}{te ta:TE}{t tk:TA}{nm:Option Str}
structure KBinds (K:ZZfg) (fd:FuncData) (ps ks:List Str) (g:List Value->List Value->List Value) (gV:List V->List V->List V):Prop where
 to:∀(s:Shared) (us ws:List Value),K.In s.heap->(g us ws).length=ps.length->BindsTo s fd ⟨us,ks.zip ws⟩ (ps.zip (g us ws))
 rel:∀ {vs:List V} {us:List Value} {zs:List V} {ws:List Value},Vals vs us->Vals zs ws->Vals (gV vs zs) (g us ws)
variable{g:List Value->List Value->List Value}{gV:List V->List V->List V}
end
structure FnScope (N P:List Str) (sc:Scope):Prop where
 kind:sc.kind = .function
 co:sc.isCoroutine=false
 gen:sc.isGenerator=false
 nd:N.Nodup
 pre:N.take P.length=P
 par:∀x∈P,sc.names.lookup x=some .local\/sc.names.lookup x=some .cell
 nofree:∀y∈sc.names,y.2 ≠ .free
theorem Zhn{kindOf:Str->Option NameKind}{x:Str}:∀ {binds:List (Str×Value)} {m:Str->Option Value},(∀v,(x,v)∉binds)->bindL kindOf binds m x=m x
 | [],_,_=>rfl
 |(n,v)::r,m,h=>by
  unfold bindL;rw[Zhn λw hw=>h w (Wl _ hw)]
  split
  ·have:x≠n:=by rintro rfl;exact h v Wj
   simp[this]
  ·rfl
theorem Zho{kindOf:Str->Option NameKind}{x:Str}:∀ {binds:List (Str×Value)} {m:Str->Option Value},(∀v,(x,v)∉binds)->bindC kindOf binds m x=m x
 | [],_,_=>rfl
 |(n,v)::r,m,h=>by
  unfold bindC;rw[Zho λw hw=>h w (Wl _ hw)]
  split
  ·rfl
  ·have:x≠n:=by rintro rfl;exact h v Wj
   simp[this]
theorem Zhp{kindOf:Str->Option NameKind}{x:Str}{v:Value}:∀ {P:List Str} {vs:List Value} {i:Nat} {m:Str->Option Value},P.Nodup->P[i]?=some x->vs[i]?=some v->kindOf x=some .local →
    bindL kindOf (P.zip vs) m x=some v
  | [],_,_,_,_,h,_,_=>by simp at h
  | _::_,[],_,_,_,_,h,_=>by simp at h
  | p::P,w::vs,0,m,nd,h1,h2,hk=>by
    simp at h1 h2; subst h1; subst h2
    show bindL kindOf ((p,w)::P.zip vs) m p=_;unfold bindL;rw[Zhn λv hv=>(List.nodup_cons.mp nd).1 (List.of_mem_zip hv).1,if_pos hk]
    simp
  | p::P,w::vs,i+1,m,nd,h1,h2,hk=>by
    show bindL kindOf ((p,w)::P.zip vs) m x=_;unfold bindL;exact Zhp (i:=i) (List.nodup_cons.mp nd).2 (by simpa using h1) (by simpa using h2) hk
theorem Zhq{kindOf:Str->Option NameKind}{x:Str}{v:Value}:∀ {P:List Str} {vs:List Value} {i:Nat} {m:Str->Option Value},P.Nodup->P[i]?=some x->vs[i]?=some v->kindOf x≠some .local →
    bindC kindOf (P.zip vs) m x=some v
  | [],_,_,_,_,h,_,_=>by simp at h
  | _::_,[],_,_,_,_,h,_=>by simp at h
  | p::P,w::vs,0,m,nd,h1,h2,hk=>by
    simp at h1 h2; subst h1; subst h2
    show bindC kindOf ((p,w)::P.zip vs) m p=_;unfold bindC;rw[Zho λv hv=>(List.nodup_cons.mp nd).1 (List.of_mem_zip hv).1,if_neg hk]
    simp
  | p::P,w::vs,i+1,m,nd,h1,h2,hk=>by
    show bindC kindOf ((p,w)::P.zip vs) m x=_;unfold bindC;exact Zhq (i:=i) (List.nodup_cons.mp nd).2 (by simpa using h1) (by simpa using h2) hk
def start(N:List Str)(vs:List V):St:=vs.map some++List.replicate (N.length-vs.length) none
def Zoe(CX:CXT)(P:Program)(w:World)(K:ZZfg)(mg:ZZmg)(base:Heap)(N:List Str)(qual:Str)(scope:Scope)(f:Addr)(cd:Value)(A:Around)(outer:List Env)(s:Shared)(H:Hp)(E:XK):Cx where
 prog:=P
 w:=w
 K:=K
 mg:=mg
 base:=base
 A:=A.deeper (envOfC qual scope s.heap.objs.size f cd)
 N:=N
 s₀:=s
 H₀:=H
 env:=envOfC qual scope s.heap.objs.size f cd
 outer:=outer
 stack:=envOfC qual scope s.heap.objs.size f cd::outer
 ex:=[]
 calm:=true
 fn:=λ_=>true
 pn:=[]
 xe:=λe s'=>wpAny (model P w) (A.deeper (envOfC qual scope s.heap.objs.size f cd)) (leaving (envOfC qual scope s.heap.objs.size f cd) e) (λ_ s''=>CX outer H s E e s'') (λe' s''=>CX outer H s E e' s'') s'
theorem Zi5{sc:Scope}{n:Nat}{x:Str}(h:sc.names.lookup x=some .cell):∃c,(cellsFrom n sc.names []).lookup x=some c:=by
 have q:=PySem.W.cellsFrom_some sc.names n [] (.inl h);exact Option.isSome_iff_exists.mp q
theorem Zkx{CX:CXT}{P:Program}{w:World}{K:ZZfg}{mg:ZZmg}{base:Heap}{N ps:List Str}{qual:Str}{scope:Scope}{f:Addr}{cd:Value}{A:Around}{outer:List Env}{s s1:Shared}{H:Hp}{E:XK}{us:List Value}{vs:List V}
    (S:FnScope N ps scope) (hd:A.handled=none) (e0:Env0 P w K mg base A outer s H) (hl:vs.length=ps.length) (r:Vals vs us)
    (x:InCallC s s.heap.objs.size (bindL (envOfC qual scope s.heap.objs.size f cd).kindOf (ps.zip us) λ_=>none) (cellsFrom (s.heap.objs.size+1) scope.names []) (bindC (envOfC qual scope s.heap.objs.size f cd).kindOf (ps.zip us) λ_=>none) s1) :
    Inv (Zoe CX P w K mg base N qual scope f cd A outer s H E) [] (start N vs) H s1:=by
  have hpl:ps.length<=N.length:=by have:=congrArg List.length S.pre; rw[Qa] at this; omega
  obtain ⟨h1,tk,rfl,hk⟩:=x.done;have noA:∀b:Addr,b∉(Zoe CX P w K mg base N qual scope f cd A outer s H E).ex:=λb z=>absurd (show b∈([]:ZZla) from z) (by simp);refine ⟨⟨e0.mod,S.kind,rfl,rfl,Q3 _,λy z c h1 h2=>?_,λy hy=>?_,λy c _ h=>?_,λ_=>hd,Around.frames_deeper e0.frames,.inr ⟨rfl,rfl⟩,λb z=>absurd z (noA b),e0.bs,e0.bsz,λb _ _=>noA b,λb z=>absurd z (noA b),e0.funs,e0.frf⟩,
    rfl,e0.bare,Un.kept hk,⟨_,x.toInCall.ns,λi y v h1 h2 h3=>?_⟩,λy c h=>⟨_,x.cell y c h⟩,e0.hok.fresh (Q3 _),λy c h=>?_,λp hp=>absurd (show p∈([]:List (Addr×Obj)) from hp) (by simp),e0.hok.kept hk,?_⟩
  · exact name_of_addr x.apart (PySem.mem_of_lookup h1) (PySem.mem_of_lookup h2)
  · have hy:scope.names.lookup y=some .cell\/scope.names.lookup y=some .free:=hy
    rcases hy with hy | hy
    · exact Zi5 hy
    · exact absurd rfl (S.nofree _ (PySem.mem_of_lookup hy))
  · exact Uh (x.above y c (PySem.mem_of_lookup h))
  · have hi:i<vs.length:=by
      unfold start at h2
      by_cases hi:i<vs.length
      · exact hi
      · rw[Wo (by simpa using hi)] at h2
        rw[Uj] at h2
        split at h2 <;> cases h2
    have ha:vs[i]?=some v:=by
      unfold start at h2;rw[Wh (by simpa using hi),Qb] at h2
      cases e:vs[i]? with
      | none=>rw[e] at h2; cases h2
      | some a=>rw[e] at h2; cases h2; rfl
    obtain ⟨u,hu,rv⟩:=r.get ha;have hp:ps[i]?=some y:=by
      rw[<-S.pre,List.getElem?_take_of_lt ⋯]; exact h1
    have ndP:ps.Nodup:=by rw[<-S.pre]; exact S.nd.sublist (List.take_sublist _ _)
    refine ⟨u,rv,?_⟩;rcases S.par y (Qc hp) with k | k
    · exact .inl ⟨k,Zhp ndP hp hu k⟩
    · obtain ⟨c,e⟩:=Zi5 (n:=s.heap.objs.size+1) k
      refine .inr ⟨.inl k,c,e,?_⟩;have q:=x.cell y c e;rw[Zhq ndP hp hu (by show scope.names.lookup y≠_; rw[k]; decide)] at q;exact q
  · exact e0.hok.fresh (Uh (x.above y c (PySem.mem_of_lookup h)))
  · unfold start
    show _=N.length;rw[Qg,Q2,Wa];omega
theorem Zof{CX:CXT}{P:Program}{w:World}{K:ZZfg}{mg:ZZmg}{base:Heap}{k:Nat}{f:Addr}{name qual:Str}{params:Arguments}{body:List Stmt}{scope:Scope}{dV kV doc pm cdv ct oc:Value}{an od:Option Addr}
    {osl:Array (Option Value)} {N ps:List Str} {sp:Sp} (lk:K.lookup f=some ⟨oc,od,.func (PySem.W.fnOf name qual params body scope dV kV doc pm an cdv ct),osl⟩) (hcd:PySem.W.codeIn K cdv qual=true) (S:FnScope N ps scope)
    (len:∀vs H Q E,sp vs H Q E->vs.length=ps.length)
    (hbody:∀(A:Around) (outer:List Env) (s:Shared) (H:Hp) (vs:List V) (Q:VK) (E:XK),Room k (A.deeper (envOfC qual scope s.heap.objs.size f cdv))->sp vs H Q E →
      ∃t,PSs (Zoe CX P w K mg base N qual scope f cdv A outer s H E) body t/\t { nx:=λ_ H'=>Q .non H',rt:=Q } (start N vs) H) :
    FnOk P w K mg base CX (k+1) f (PySem.W.fnOf name qual params body scope dV kV doc pm an cdv ct) ps sp:=by
  refine ⟨len,λA outer s H args us vs Q E hr e0 hb r hsp=>?_⟩;have hl:=len _ _ _ _ hsp;have KX:K.In s.heap:=e0.mod.kin.keeps λb o e=>(e0.bs b o e).1;have lim:s.heap.NoLimit:=e0.mod.nolimit.keeps λb o e=>(e0.bs b o e).1;have hkind:∀y∈ps.zip us,scope.names.lookup y.1=some .local\/(scope.names.lookup y.1=some .cell/\((cellsFrom (s.heap.objs.size+1) scope.names []).lookup y.1).isSome=true):=λ⟨n,v⟩ hy=>by
    rcases S.par n (List.of_mem_zip hy).1 with q | q
    · exact .inl q
    · exact .inr ⟨q,PySem.W.cellsFrom_some _ _ _ (.inl q)⟩
  refine codeAny_call_function hr.depth (KX _ _ lk) rfl S.co S.gen rfl (PySem.W.codeRec_of KX hcd) (hb _ _ _ _ ?_);refine wpAny_newFunctionEnv_cells S.kind hkind λenv he s1 x=>?_;subst he;refine ⟨lim.keeps x.toInCall.keep,codeAny_func ?_⟩;obtain ⟨t,ht,hq⟩:=hbody A outer s H vs Q E (hr.deeper _) hsp;have I:Inv (Zoe CX P w K mg base N qual scope f cdv A outer s H E) [] (start N vs) H s1:=Zkx S hr.hd e0 hl r x;refine wpAny_mono (ht [] s1 (start N vs) H _ I hq) (λfl s' hs=>?_) λe s' hs=>hs;have fin:∀ {σ':St} {H':Hp} {v:V} {u:Value},Inv (Zoe CX P w K mg base N qual scope f cdv A outer s H E) [] σ' H' s'->RelV v u->Q v H'->CE outer P w H s Q u s' :=
    fun {σ' H' v u} J rv q=>⟨v,H',J.os,J.bare,J.base,J.hok,rv,q⟩
  cases fl with
  | ret u =>
    obtain ⟨v,σ',H',J,rv,q⟩:=hs;exact fin J rv q
  | next =>
    obtain ⟨σ',H',J,q⟩:=hs;exact fin (v:=V.non) (u:=Value.none) J rfl q
  | brk =>
    obtain ⟨_,_,_,q⟩:=hs;exact False.elim q
  | cont =>
    obtain ⟨_,_,_,q⟩:=hs;exact False.elim q
section
variable{X:Cx}{x:Str}{p pos:Pos}{e:Expr}{es:List Expr}{t:TA}{id T:String}{r:List V->Hp->VK->Prop}
def tCB(r:List V->Hp->VK->Prop)(t:TA):TE:=λσ H Q=>t σ H λvs H1=>r vs H1 Q
theorem Zaj(hc:CallR X (.builtin id) r)(hg:Gl X x)(hm:X.mg x=none)(hv:bootBuiltins x=some (.builtin id))(ha:PA X (e::es) t)(hn:x ≠ "__name__" := by decide) (hdb:(x==("__debug__" : Str))=false:=by decide)
    (he:starEach (e::es) X.env=(false,eval e X.env)::starEach es X.env:=by rfl) (hpl:(backTo pos (starEach es X.env)).any (·.1)=false:=by rfl):PE X (.Call (.Name x p) (e::es) [] pos) (tCB r t):=by
  intro pins s σ H Q I h;refine wpAny_Call_Name_kw (Zdu I hg hm hv ?_ hn hdb);exact PyProof.Rows.callWith_builtin1 (thn (ha pos pins s σ H _ I h) λus s1 ⟨vs,H1,I1,r1,q1⟩=>hc pins s1 σ H1 vs us Q I1 r1 q1) he hpl
theorem Zcq(hc:CallR X (.type T) r)(hg:Gl X x)(hm:X.mg x=none)(hv:bootBuiltins x=some (.type T))(ha:PA X (e::es) t)(hn:x ≠ "__name__" := by decide) (hdb:(x==("__debug__" : Str))=false:=by decide)
    (he:starEach (e::es) X.env=(false,eval e X.env)::starEach es X.env:=by rfl) (hpl:(backTo pos (starEach es X.env)).any (·.1)=false:=by rfl):PE X (.Call (.Name x p) (e::es) [] pos) (tCB r t):=by
  intro pins s σ H Q I h;refine wpAny_Call_Name_kw (Zdu I hg hm hv ?_ hn hdb);exact PyProof.Rows.callWith_type1 (thn (ha pos pins s σ H _ I h) λus s1 ⟨vs,H1,I1,r1,q1⟩=>hc pins s1 σ H1 vs us Q I1 r1 q1) he hpl
end
end L2
namespace HT
open PySem PyProof.Rows
section
open PySem.SeqAt
open PySem.AutoSeq1 (wpAny_loadPart')
open PySem.MeetsSeq PySem.MeetsSeq2 PySem.MeetsSeq3
end
section
variable{prog:Program}{w:World}{A:Around}{E:Value->Shared->Prop}{s:Shared}
def sIx(n d:Nat):Option Int->Nat
 |none=>d
 |some v=>if v<0 then (v+(n:Int)).toNat else min v.toNat n
theorem sIx_none(n d:Nat):sIx n d none=d:=rfl
theorem sIx_nat(n d k:Nat):sIx n d (some (k:Int))=min k n:=by
 show (if (k:Int)<0 then ((k:Int)+(n:Int)).toNat else min (k:Int).toNat n)=min k n;rw[if_neg ⋯,Qu]
end
end HT
namespace L2
open PySem PySem.Spec PyProof.Rows
abbrev TO:=St->Hp->(Option Int->Hp->Prop)->Prop
def PO(X:Cx)(e:Option Expr)(t:TO):Prop :=
 ∀(pins:List (Addr×Obj)) (s:Shared) (σ:St) (H:Hp) (Q:Option Int->Hp->Prop),Inv X pins σ H s->t σ H Q →
  wpAny (model X.prog X.w) X.A (evalPart e X.env) (λu s'=>∃o H',Inv X pins σ H' s'/\IsPart u o/\Q o H') X.xe s
def Zog:TO:=λ_ H Q=>Q none H
def ZqU(t:TE):TO:=λσ H Q=>t σ H λx H1=>∃i,x = .int i/\Q (some i) H1
section
variable{X:Cx}{e:Expr}{te:TE}{lo hi:Option Expr}{tl th:TO}{pos p2:Pos}
theorem Zbr:PO X none Zog:=by
 intro pins s σ H Q I h;rw[evalPart_none];exact wpAny_pure ⟨none,H,I,.none,h⟩
theorem Za5(h:PE X e te):PO X (some e) (ZqU te):=by
 intro pins s σ H Q I hw;rw[evalPart_some];refine thn (h pins s σ H _ I hw) λu s1 ⟨x,H1,I1,r1,q1⟩=>?_;obtain ⟨i,rfl,q⟩:=q1;obtain ⟨t,rfl⟩:=r1;exact ⟨some i,H1,I1,.int i t,q⟩
def SlR(X:Cx)(r:V->Option Int->Option Int->Hp->VK->Prop):Prop :=
 ∀(pins:List (Addr×Obj)) (s:Shared) (σ:St) (H:Hp) (x:V) (v vl vu:Value) (lo hi:Option Int) (sl:Addr) (Q:VK),Inv X pins σ H s->RelV x v->s.heap.IsSliceOf sl vl vu .none->IsPart vl lo->IsPart vu hi->r x lo hi H Q →
  ∃T id,typeLookup (.type T) "__getitem__"=pure (some (.builtin id))/\s.TypeIs v T/\wpAny (model X.prog X.w) X.A (getItem v (.ref sl)) (EP X pins σ Q) X.xe s
theorem SlR.or{r r':V->Option Int->Option Int->Hp->VK->Prop}(h:SlR X r)(h':SlR X r'):SlR X (λx lo hi H Q=>r x lo hi H Q\/r' x lo hi H Q):=by
 intro pins s σ H x v vl vu lo hi sl Q I rx hs pl pu q;rcases q with q|q
 ·exact h pins s σ H x v vl vu lo hi sl Q I rx hs pl pu q
 ·exact h' pins s σ H x v vl vu lo hi sl Q I rx hs pl pu q
def tSl(r:V->Option Int->Option Int->Hp->VK->Prop)(te:TE)(tl th:TO):TE:=λσ H Q=>te σ H λx H1=>tl σ H1 λl H2=>th σ H2 λu H3=>r x l u H3 Q
theorem ZaS{r:V->Option Int->Option Int->Hp->VK->Prop}(hr:SlR X r)(he:PE X e te)(hl:PO X lo tl)(hu:PO X hi th):PE X (.Subscript e (.Slice lo hi none p2) pos) (tSl r te tl th):=by
 intro pins s σ H Q I h;refine Subscript_ (thn (he pins s σ H _ I h) λv s1 ⟨x,H1,I1,r1,q1⟩=>?_);refine wpAny_Slice (thn (hl pins s1 σ H1 _ I1 q1) λvl s2 ⟨l,H2,I2,pl,q2⟩=>thn (hu pins s2 σ H2 _ I2 q2) λvu s3 ⟨u,H3,I3,pu,q3⟩=>?_);rw[evalPart_none];refine wpAny_pure ?_;have I4:Inv X pins σ H3 { s3 with heap:=s3.heap.push { cls:=.type "slice", data:=.fields #[vl,vu,.none] } }:=I3.kept (t':=s3.toks) λb ob q=>Heap.get?_push_of_some _ q;obtain ⟨T,id,hT,ht,hg⟩:=hr pins { s3 with heap:=s3.heap.push { cls:=.type "slice", data:=.fields #[vl,vu,.none] } } σ H3 x v vl vu l u s3.heap.objs.size Q I4 r1 (Heap.IsSliceOf.new ..) pl pu q3;show wpAny (model X.prog X.w) X.A (subscriptTail e (.Slice lo hi none p2) v (.ref s3.heap.objs.size)) (EP X pins σ Q) X.xe { s3 with heap:=s3.heap.push { cls:=.type "slice", data:=.fields #[vl,vu,.none] } };exact tail_any (ops:=[.ref s3.heap.objs.size,v]) ht hT hg (by with_unfolding_all rfl)
def ZeL(xs:List V)(lo hi:Option Int):List V:=(xs.drop (HT.sIx xs.length 0 lo)).take (HT.sIx xs.length xs.length hi-HT.sIx xs.length 0 lo)
theorem Zh4(xs:List V)(lo hi:Option Int):(ZeL xs lo hi).length<=xs.length:=by
 unfold ZeL;rw[Qa,W7];omega
end
def ixN(n:Nat)(i:Int):Option Nat:=if 0<=i then (if i<n then some i.toNat else none) else if -(n:Int)<=i then some (i+n).toNat else none
def atI{α:Type}(xs:List α)(i:Int):Option α:=(ixN xs.length i).bind λj=>xs[j]?
theorem Zky{n:Nat}{i:Int}{j:Nat}(h:ixN n i=some j):seqIndex? i n=some j/\j<n /\ -(n:Int)<=i/\i<n:=by
 unfold ixN at h
 by_cases h0:0<=i
 ·rw[if_pos h0] at h
  by_cases h1:i<n
  ·rw[if_pos h1] at h;have e:i.toNat=j:=Option.some.inj h;exact ⟨by rw[seqIndex_of h0 h1,e],⋯,⋯,h1⟩
  ·rw[if_neg h1] at h;cases h
 ·rw[if_neg h0] at h
  by_cases h1:-(n:Int)<=i
  ·rw[if_pos h1] at h;have e:(i+n).toNat=j:=Option.some.inj h;exact ⟨by rw[seqIndex_neg ⋯ h1,e],⋯,h1,⋯⟩
  ·rw[if_neg h1] at h;cases h
theorem Zkz{α:Type}{xs:List α}{i:Int}{v:α}(h:atI xs i=some v):∃j,seqIndex? i xs.length=some j/\xs[j]?=some v/\j<xs.length /\ -(xs.length:Int)<=i/\i<xs.length:=by
 unfold atI at h
 cases e:ixN xs.length i with
 |none=>rw[e] at h;cases h
 |some j =>
  rw[e] at h;obtain ⟨h1,h2,h3,h4⟩:=Zky e;exact ⟨j,h1,h,h2,h3,h4⟩
theorem ZaK{α:Type}{xs:List α}{j:Nat}{v:α}(h:xs[j]?=some v):atI xs (j:Int)=some v:=by
 have hj:j<xs.length:=(Qo.mp h).1;have e:ixN xs.length (j:Int)=some j:=by
  unfold ixN;rw[if_pos ⋯,if_pos ⋯];simp
 unfold atI;rw[e];exact h
def Zoh(b:Expr):Prop:=∀o i,subscripted b false o i=operate [o,i] (getItem o i)
def IxR(X:Cx)(r:R2):Prop :=
 ∀(value slice:Expr) (pins:List (Addr×Obj)) (s:Shared) (σ:St) (H:Hp) (x y:V) (v u:Value) (Q:VK),Inv X pins σ H s->RelV x v->RelV y u->r x y H Q →
  subscripted slice false v u=operate [v,u] (getItem v u)->wpAny (model X.prog X.w) X.A (subscriptTail value slice v u) (EP X pins σ Q) X.xe s
def MtR(X:Cx)(id:String)(r:V->List V->Hp->VK->Prop):Prop :=
 ∀(pins:List (Addr×Obj)) (s:Shared) (σ:St) (H:Hp) (x:V) (xs:List V) (v:Value) (us:List Value) (Q:VK),Inv X pins σ H s->RelV x v->Vals xs us->r x xs H Q →
  wpAny (model X.prog X.w) X.A (call (.builtin id) (v::us)) (EP X pins σ Q) X.xe s
section
variable{X:Cx}{a b:Expr}{ta tb:TE}{pos:Pos}
theorem IxR.or{r r':R2}(h:IxR X r)(h':IxR X r'):IxR X (λx y H Q=>r x y H Q\/r' x y H Q):=by
 intro value slice pins s σ H x y v u Q I rx ry q hs;rcases q with q|q
 ·exact h value slice pins s σ H x y v u Q I rx ry q hs
 ·exact h' value slice pins s σ H x y v u Q I rx ry q hs
theorem MtR.or{id:String}{r r':V->List V->Hp->VK->Prop}(h:MtR X id r)(h':MtR X id r'):MtR X id (λx xs H Q=>r x xs H Q\/r' x xs H Q):=by
 intro pins s σ H x xs v us Q I rx rs q;rcases q with q|q
 ·exact h pins s σ H x xs v us Q I rx rs q
 ·exact h' pins s σ H x xs v us Q I rx rs q
theorem Zao{r:R2}(hr:IxR X r)(ha:PE X a ta)(hb:PE X b tb)(hs:Zoh b):PE X (.Subscript a b pos) (tOp r ta tb):=by
 intro pins s σ H Q I h;exact Subscript_ (ZqQ ha hb I h λv u s2 x y H2 I2 rx ry q=>hr a b pins s2 σ H2 x y v u Q I2 rx ry q (hs _ _))
inductive ZqV (K:ZZfg) (x y:V) (H:Hp) (Q:VK):Prop
 |mk (p:Addr) (xs:List V) (i:Int) (v:V) (_:x = .ref p) (_:y = .int i) (_:SqL K H p xs) (_:atI xs i=some v) (_:Q v H):ZqV K x y H Q
inductive ZrC (K:ZZfg) (x y:V) (H:Hp) (Q:VK):Prop
 |mk (p:Addr) (xs:List V) (i:Int) (v:V) (_:x = .ref p) (_:y = .int i) (_:SqT K H p xs) (_:atI xs i=some v) (_:Q v H):ZrC K x y H Q
theorem Zap:IxR X (ZqV X.K):=by
  intro value slice pins s σ H x y v u Q I rx ry h hs;obtain ⟨p,xs,i,z,rfl,rfl,hq,he,q⟩:=h
  cases rx
  obtain ⟨t,rfl⟩:=ry;obtain ⟨its,r,pl,hz⟩:=I.list hq;obtain ⟨j,h1,h2,h3,h4,h5⟩:=Zkz he;obtain ⟨w,ew,rw'⟩:=r.get h2;have hl:=r.length;have hn:=Zi2;have fin:EP X pins σ Q w s:=⟨z,H,I,rw',q⟩
  by_cases h0:0<=i
  · have hj:i.toNat=j:=by
      rw[seqIndex_of h0 h5] at h1;exact Option.some.inj h1
    exact item_listR pl.isList h0 ⋯ (by rw[hj]; simpa using ew) fin hs
  · have hj:(i+(its.toArray.size:Int)).toNat=j:=by
      rw[seqIndex_neg ⋯ h4] at h1;rw[Qh,<-hl];exact Option.some.inj h1
    exact subscriptTail_builtinR (x:=w) pl.isList.typeIs slot_list_getitem.lookup
      (wpAny_getItem_list_neg (Q:=λr s'=>r=w/\EP X pins σ Q r s') pl.isList ⋯ (by rw[Qh] <;> omega) ⋯ (by rw[hj]; simpa using ew) ⟨rfl,fin⟩) hs
theorem Zax:IxR X (ZrC X.K):=by
 intro value slice pins s σ H x y v u Q I rx ry h hs;obtain ⟨p,xs,i,z,rfl,rfl,hq,he,q⟩:=h
 cases rx
 obtain ⟨t,rfl⟩:=ry;obtain ⟨its,r,pl,hz⟩:=I.tuple hq;obtain ⟨j,h1,h2,h3,h4,h5⟩:=Zkz he;obtain ⟨w,ew,rw'⟩:=r.get h2;have hl:=r.length;have hn:=Zi2;have fin:EP X pins σ Q w s:=⟨z,H,I,rw',q⟩;exact subscriptTail_builtinR (x:=w) pl.typeIs slot_tuple_getitem.lookup
  (getItem_tuple (j:=j) (Q:=λr s'=>r=w/\EP X pins σ Q r s') pl ⋯ ⋯ (by rw[Qh,<-hl];exact h1) (by simpa using ew) ⟨rfl,fin⟩) hs
theorem ZjJ(its:List Value)(n j:Nat)(u:Value):Obj.mapSeq (·.setIfInBounds j u) { cls:=.type "list", data:=.seq its.toArray n }={ cls:=.type "list", data:=.seq (its.set j u).toArray n }:=by
 simp[Obj.mapSeq]
theorem Inv.lst{pins:List (Addr×Obj)}{σ:St}{H:Hp}{s:Shared}{p:Addr}{xs:List V}(I:Inv X pins σ H s)(h:H p=some (.lst xs)) :
    ∃(its:List Value) (n:Nat),Vals xs its/\s.heap.get? p=some { cls:=.type "list", data:=.seq its.toArray n }/\xs.length<=sizeLine:=by
  obtain ⟨z,its,n,r,e⟩:=I.hok p _ h;exact ⟨its,n,r,e,z⟩
theorem Inv.lstUpd{pins:List (Addr×Obj)}{σ:St}{H:Hp}{s:Shared}{p:Addr}{xs ys:List V}{its its':List Value}{n n':Nat}{f:Obj->Obj}(I:Inv X pins σ H s)(h:H p=some (.lst xs))
    (ho:s.heap.get? p=some { cls:=.type "list", data:=.seq its.toArray n }) (hf:f { cls:=.type "list", data:=.seq its.toArray n }={ cls:=.type "list", data:=.seq its'.toArray n' }) (r:Vals ys its') (hz:ys.length<=sizeLine) (t:Nat) :
    Inv X pins σ (upd H p (.lst ys)) { s with heap:=s.heap.update p f,toks:=t }:=by
  have e:(s.heap.update p f).get? p=some { cls:=.type "list", data:=.seq its'.toArray n' }:=by
    rw[Heap.get?_update_self f ho (by rw[hf] <;> rfl),hf]
  refine I.write (x:=p) (e:=p) (by rw[h]; trivial) (.inl rfl) (λb u hb q=>(Heap.get?_update_other _ _ (Ne.symm hb)).trans q) ⟨_,e⟩ ?_;exact ⟨hz,its',n',r,e⟩
inductive Zpz (o i v:V) (H:Hp) (Q:Hp->Prop):Prop
 |mk (p:Addr) (xs:List V) (k:Int) (j:Nat) (_:o = .ref p) (_:i = .int k) (_:H p=some (.lst xs)) (_:ixN xs.length k=some j) (_:Q (upd H p (.lst (xs.set j v)))):Zpz o i v H Q
theorem ZdR:Zrx X Zpz:=by
  intro pins s σ H o i v ov iv u Q I ro ri rv h;obtain ⟨p,xs,k,j,rfl,rfl,hp,hj,q⟩:=h
  cases ro
  obtain ⟨t,rfl⟩:=ri;obtain ⟨its,n,r,ho,hz⟩:=I.lst hp;obtain ⟨h1,h2,h3,h4⟩:=Zky hj;have hl:=r.length;have hn:=Zi2;have I':Inv X pins σ (upd H p (.lst (xs.set j v))) { s with heap:=s.heap.update p (Obj.mapSeq (·.setIfInBounds j u)) } :=
    I.lstUpd hp ho (ZjJ its n j u) (r.set rv j) (by rw[W6]; exact hz) s.toks
  by_cases h0:0<=k
  · have hk:k.toNat=j:=by
      rw[seqIndex_of h0 h4] at h1;exact Option.some.inj h1
    exact PySem.W.ki_setAt ho h0 ⋯ (by rw[Qh,<-hl]; exact h4) (by rw[hk]; exact ⟨_,I',q⟩)
  · have hk:(k+(its.toArray.size:Int)).toNat=j:=by
      rw[seqIndex_neg ⋯ h3] at h1;rw[Qh,<-hl];exact Option.some.inj h1
    exact PySem.W.ki_setBack ho ⋯ (by rw[Qh,<-hl]; exact h3) ⋯ (by rw[hk]; exact ⟨_,I',q⟩)
theorem Zhr(lo hi:Option Int)(n:Nat):(sliceBounds lo hi none n).1=((HT.sIx n 0 lo:Nat):Int)/\(sliceBounds lo hi none n).2.1=((HT.sIx n n hi:Nat):Int)/\(sliceBounds lo hi none n).2.2=1:=by
 refine ⟨?_,?_,rfl⟩
 ·cases lo with
  |none=>simp[sliceBounds,HT.sIx]
  |some i =>
   simp only[sliceBounds,HT.sIx,Option.getD_none,show (1:Int)>0 by decide,if_true]
   by_cases h:i<0
   ·simp only[h,if_true] <;> omega
   ·simp only[h,if_false] <;> omega
 ·cases hi with
  |none=>simp[sliceBounds,HT.sIx]
  |some i =>
   simp only[sliceBounds,HT.sIx,Option.getD_none,show (1:Int)>0 by decide,if_true]
   by_cases h:i<0
   ·simp only[h,if_true] <;> omega
   ·simp only[h,if_false] <;> omega
theorem Zgp(its:List Value)(lo hi:Option Int):slicePick its.toArray lo hi none=((its.drop (HT.sIx its.length 0 lo)).take (HT.sIx its.length its.length hi-HT.sIx its.length 0 lo)).toArray:=by
 obtain ⟨h1,h2,h3⟩:=Zhr lo hi its.toArray.size;unfold slicePick;rw[h1,h2,h3]
 simp only[sliceRange_one,pick_run,Qh] <;> rfl
inductive ZqW (K:ZZfg) (x:V) (lo hi:Option Int) (H:Hp) (Q:VK):Prop
 |mk (a:Addr) (xs:List V) (_:x = .ref a) (_:SqL K H a xs) (_:∀p,H p=none->Q (.ref p) (upd H p (.lst (ZeL xs lo hi)))):ZqW K x lo hi H Q
theorem Zbg:SlR X (ZqW X.K):=by
 intro pins s σ H x v vl vu lo hi sl Q I rx hs pl pu h;obtain ⟨a,xs,rfl,hx,q⟩:=h
 cases rx
 obtain ⟨its,r,ht,hz⟩:=I.list hx;have hlen:=r.length;refine ⟨"list", _,slot_list_getitem.lookup,ht.isList.typeIs,?_⟩;refine wpAny_getItem_list_slice ht.isList hs pl pu .none (by simp) ?_ (by rw[Qh] <;> omega);rw[Zgp,<-hlen];refine ⟨.ref s.heap.objs.size,_,I.laid (t':=s.toks) (o:=.lst (ZeL xs lo hi)) (λb ob q=>Heap.get?_push_of_some _ q) (Q3 _) ?_,rfl,q _ (I.hok.fresh (Q3 _))⟩;exact ⟨Q0 (Zh4 xs lo hi) hz,_,0,(r.drop (HT.sIx xs.length 0 lo)).take (HT.sIx xs.length xs.length hi-HT.sIx xs.length 0 lo),Heap.get?_push_size _ rfl⟩
theorem Zai:CallR X (.builtin "len") (λxs H Q=>∃p ys,xs=[.ref p]/\(SqL X.K H p ys\/SqT X.K H p ys)/\Q (.int ys.length) H):=by
 intro pins s σ H xs us Q I r h;obtain ⟨p,ys,rfl,hq,q⟩:=h;obtain ⟨u,rfl,rx⟩:=Zhi r
 cases rx
 have hn:=Zi2;rcases hq with hq|hq
 ·obtain ⟨its,r',pl,hz⟩:=I.list hq;have hlen:=r'.length;exact Calls.call_len_list pl.isList (by simp only[Qh] <;> omega) ⟨.int ys.length,H,I.tok _,⟨s.toks+1,by rw[Qh,hlen]⟩,q⟩
 ·obtain ⟨its,r',pl,hz⟩:=I.tuple hq;have hlen:=r'.length;exact len_tuple pl (by simp only[Qh] <;> omega) ⟨.int ys.length,H,I.tok _,⟨s.toks+1,by rw[Qh,hlen]⟩,q⟩
theorem CallR.or{f:Value}{r r':List V->Hp->VK->Prop}(h:CallR X f r)(h':CallR X f r'):CallR X f (λxs H Q=>r xs H Q\/r' xs H Q):=by
 intro pins s σ H xs us Q I rs q;rcases q with q|q
 ·exact h pins s σ H xs us Q I rs q
 ·exact h' pins s σ H xs us Q I rs q
theorem Zb7:CallR X (.type "list") (λxs H Q=>∃p ys,xs=[.ref p]/\(SqL X.K H p ys\/SqT X.K H p ys)/\∀l,H l=none->Q (.ref l) (upd H l (.lst ys))):=by
  intro pins s σ H xs us Q I r h;obtain ⟨p,ys,rfl,hq,q⟩:=h;obtain ⟨u,rfl,rx⟩:=Zhi r
  cases rx
  have fin:∀(its:List Value),Vals ys its->ys.length<=sizeLine->∀(h':Heap) (c':Nat),(∀b o',s.heap.get? b=some o'->h'.get? b=some o') →
      h'.get? s.heap.objs.size=some { cls:=.type "list", dict:=none,data:=.seq its.toArray c',slots:=#[] }->EP X pins σ Q (.ref s.heap.objs.size) { s with heap:=h' }:=λits r' hz h' c' kp e =>
    ⟨.ref s.heap.objs.size,_,I.laid (t':=s.toks) kp (Q3 _) (show ObjOk X.prog X.w _ h' _ (.lst ys) from ⟨hz,its,c',r',e⟩),rfl,q _ (I.hok.fresh (Q3 _))⟩
  rcases hq with hq | hq
  · obtain ⟨its,r',pl,hz⟩:=I.list hq
    have hlen:=r'.length;obtain ⟨o,ho,hc,n,hd⟩:=pl.isList;exact call_list_seq p (.inl rfl) ho hc hd (λh' c' kp e=>fin its r' hz h' c' kp e) (by simp only[Qh] <;> omega)
  · obtain ⟨its,r',pl,hz⟩:=I.tuple hq
    have hlen:=r'.length;obtain ⟨o,ho,hc,n,hd⟩:=pl;exact call_list_seq p (.inr rfl) ho hc hd (λh' c' kp e=>fin its r' hz h' c' kp e) (by simp only[Qh] <;> omega)
def tyV(K:ZZfg)(T:String)(x:V)(H:Hp):Prop:=match x with
  | .str _=>T = "str"
  | .int _=>T = "int"
  | .ref p=>(T = "list" /\ ∃xs,SqL K H p xs)\/(T = "tuple" /\ ∃o,K.lookup p=some o/\o.cls = .type "tuple" /\ o.dict=none) ∨
      (T = "dict" /\ ((∃kvs,H p=some (.dK kvs))\/∃kvs,H p=some (.dT kvs)))\/(T = "set" /\ ∃S n,H p=some (.set S n))
  | _=>False
theorem ZpA{pins:List (Addr×Obj)}{σ:St}{H:Hp}{s:Shared}{T:String}{x:V}{v:Value}(I:Inv X pins σ H s)(r:RelV x v)(ty:tyV X.K T x H) :
    s.TypeIs v T/\∀a,v = .ref a->∃ob,s.heap.get? a=some ob/\ob.dict=none:=by
  cases x with
  | str z =>
    obtain ⟨t,rfl⟩:=r
    cases (show T = "str" from ty)
    exact ⟨typeIs_str s z t,λ_ e=>nomatch e⟩
  | int i =>
    obtain ⟨t,rfl⟩:=r
    cases (show T = "int" from ty)
    exact ⟨typeIs_int s i t,λ_ e=>nomatch e⟩
  | ref p =>
    cases r
    rcases ty with ⟨rfl,xs,hq⟩ | ⟨rfl,o,hk,hc,hd⟩ | ⟨rfl,hk⟩ | ⟨rfl,S,n,hk⟩
    · obtain ⟨its,_,pl,_⟩:=I.list hq
      refine ⟨pl.isList.typeIs,λa e=>?_⟩
      cases e
      obtain ⟨o,n,e,c,hd,_⟩:=pl;exact ⟨o,e,hd⟩
    · refine ⟨⟨o,I.kIn p o hk,hc⟩,λa e=>?_⟩
      cases e
      exact ⟨o,I.kIn _ o hk,hd⟩
    · have z:∃o,s.heap.get? p=some o/\o.ExactDict:=by
        rcases hk with ⟨kvs,hk⟩ | ⟨kvs,hk⟩
        · obtain ⟨_,_,_,_,o,_,_,e,ex,_⟩:=I.hok p _ hk
          exact ⟨o,e,ex⟩
        · obtain ⟨_,_,_,_,o,_,_,e,ex,_⟩:=I.hok p _ hk
          exact ⟨o,e,ex⟩
      obtain ⟨o,e,ex⟩:=z;refine ⟨⟨o,e,ex.1⟩,λa e2=>?_⟩
      cases e2
      exact ⟨o,e,ex.2.1⟩
    · obtain ⟨o,_,_,_,e,ex,_⟩:=I.hok p _ hk
      refine ⟨⟨o,e,ex.1⟩,λa e2=>?_⟩
      cases e2
      exact ⟨o,e,ex.2.1⟩
  | _=>exact False.elim ty
def tBM(K:ZZfg)(T:String)(r:V->List V->Hp->VK->Prop)(to:TE)(t:TA):TE:=λσ H Q=>to σ H λx H1=>tyV K T x H1/\t σ H1 λxs H2=>r x xs H2 Q
variable{o e:Expr}{es:List Expr}{to:TE}{t:TA}{name:Str}{apos cpos:Pos}{T id:String}{r:V->List V->Hp->VK->Prop}
theorem ZeU(pa:PlainAttrs T)(slot:Slot T name id)(hty:typeOf (.builtin id)=pure (.type "method_descriptor")) (hm:MtR X id r) (ho:PE X o to) (ha:PA X (e::es) t)
    (hbase:attributeBase o name X.env (eval o X.env)=eval o X.env:=by rfl)
    (hfew:((backTo cpos (starEach (e::es) X.env)).all (λx=>!x.1)&&(backToKw cpos (keywordEach [] X.env)).all (λx=>x.1.isSome)
      && decide ((e::es).length+([]:List Keyword).length+(if ([]:List Keyword).isEmpty then 0 else 1)<30))=true:=by rfl)
    (hline:(apos.endLine==cpos.line)=true:=by rfl) (hs:starEach (e::es) X.env=(false,eval e X.env)::starEach es X.env:=by rfl) (hplain:(backTo cpos (starEach es X.env)).any (·.1)=false:=by rfl) :
    PE X (.Call (.Attribute o name apos) (e::es) [] cpos) (tBM X.K T r to t):=by
  intro pins s σ H Q I h;refine wpAny_Call_method_late hbase hfew hline rfl (thn (ho pins s σ H _ I h) λv s1 ⟨x,H1,I1,r1,ty,q1⟩=>?_);obtain ⟨h1,h2⟩:=ZpA I1 r1 ty;refine ⟨T,id,pa,slot,hty,h1,h2,?_⟩;have hA:=ha cpos pins s1 σ H1 _ I1 q1;rw[hs] at hA ⊢;refine Calls.callWith_builtin (by show (false||(backTo cpos (starEach es X.env)).any (·.1))=false; rw[hplain] <;> rfl) (Calls.evalArgs_plain ?_);exact thn hA λus s2 ⟨vs,H2,I2,r2,q2⟩=>hm pins s2 σ H2 x vs v us Q I2 r1 r2 q2
/- xs.append(e),list.index on a module's tuple .. are MtR facts of 06m -/
end
def MtM(X:Cx)(id:String)(r:V->List V->Hp->VK->Prop):Prop :=
 ∀(pins:List (Addr×Obj)) (s:Shared) (σ:St) (H:Hp) (x:V) (xs:List V) (v:Value) (us:List Value) (Q:VK),Inv X pins σ H s->RelV x v->Vals xs us->r x xs H Q →
  wpAny (model X.prog X.w) X.A (call (.builtin id) (v::us)) (EP X pins σ Q) X.xe s
theorem Vals.one:∀ {x:V} {us:List Value},Vals [x] us->∃u,us=[u]/\RelV x u
 |_,_,.cons r .nil=>⟨_,rfl,r⟩
theorem Vals.reverse{xs:List V}{us:List Value}(h:Vals xs us):Vals xs.reverse us.reverse:=by
 induction h with
 |nil=>exact .nil
 |cons r t ih=>rw[List.reverse_cons,List.reverse_cons];exact Vals.append ih (.cons r .nil)
section
variable{X:Cx}{pins:List (Addr×Obj)}{σ:St}{H:Hp}{s:Shared}{l b:Addr}{xs ys zs:List V}
theorem Inv.lset{its its':List Value}{n:Nat}{f:Array Value->Array Value}{t':Nat}(I:Inv X pins σ H s)(hH:H l=some (.lst xs))
    (e:s.heap.get? l=some { cls:=.type "list", data:=.seq its.toArray n }) (hf:f its.toArray=its'.toArray) (hv:Vals ys its') (hz:ys.length<=sizeLine) :
    Inv X pins σ (upd H l (.lst ys)) { s with heap:=s.heap.update l (Obj.mapSeq f),toks:=t' }:=by
  have q:=PySem.IsL.update e f;rw[hf] at q;refine I.write (x:=l) (e:=l) (by rw[hH]; exact trivial) (.inl rfl) (λb' u hb hu=>(Heap.get?_update_other s.heap (Obj.mapSeq f) (Ne.symm hb)).trans hu) ⟨_,q⟩ ?_;exact ⟨hz,its',_,hv,q⟩
theorem Inv.lnew{its:List Value}{t':Nat}(I:Inv X pins σ H s)(hv:Vals ys its)(hz:ys.length<=sizeLine) :
    Inv X pins σ (upd H s.heap.objs.size (.lst ys)) { s with heap:=s.heap.push { cls:=.type "list", data:=.seq its.toArray },toks:=t' } :=
  I.laid (λ_ _ q=>Heap.get?_push_of_some _ q) (Q3 _) ⟨hz,its,0,hv,Heap.get?_push_size _ rfl⟩
theorem Inv.fresh(I:Inv X pins σ H s):H s.heap.objs.size=none:=I.hok.fresh (Q3 _)
theorem Inv.lstM(I:Inv X pins σ H s)(hH:H l=some (.lst xs)):xs.length<=sizeLine/\∃(its:List Value) (n:Nat),Vals xs its/\xs.length=its.length/\s.heap.get? l=some { cls:=.type "list", data:=.seq its.toArray n }:=by
 obtain ⟨z,its,n,r,e⟩:=I.hok l _ hH;exact ⟨z,its,n,r,r.length,e⟩
theorem Zmk{n:Nat}(h:n<=sizeLine):Builtin.List.listTooLong n=false:=by
 unfold Builtin.List.listTooLong;exact decide_eq_false ⋯
end
section
variable{X:Cx}
inductive ZkA (x:V) (vs:List V) (H:Hp) (Q:VK):Prop
 |mk (l:Addr) (xs:List V) (y:V) (_:x = .ref l) (_:vs=[y]) (_:H l=some (.lst xs)) (_:xs.length<sizeLine) (_:Q .non (upd H l (.lst (xs++[y])))):ZkA x vs H Q
theorem Za6:MtM X "list.append" ZkA:=by
 intro pins s σ H x vs v us Q I rx rv h;obtain ⟨l,xs,y,rfl,rfl,hH,hz,q⟩:=h
 cases rx
 obtain ⟨u,rfl,ru⟩:=rv.one;obtain ⟨z,its,n,r,hl,e⟩:=I.lstM hH;refine call_meets F.slot_list_append ⟨_,e,rfl⟩ F.entry_list_append (F.args_list_append_2 _ _) (PySem.list_append l its.toArray n u (by rw[Qh];omega)) ⟨e,?_⟩;refine ⟨.non,_,I.lset (its':=its++[u]) hH e (by simp) (r.append (.cons ru .nil)) ?_,rfl,q⟩;rw[Qg,List.length_singleton];omega
inductive ZkB (x:V) (vs:List V) (H:Hp) (Q:VK):Prop
 |mk (l b:Addr) (xs zs:List V) (_:x = .ref l) (_:vs=[.ref b]) (_:H l=some (.lst xs)) (_:H b=some (.lst zs)) (_:xs.length+zs.length<=sizeLine) (_:Q .non (upd H l (.lst (xs++zs)))):ZkB x vs H Q
theorem ZkC:MtM X "list.extend" ZkB:=by
 intro pins s σ H x vs v us Q I rx rv h;obtain ⟨l,b,xs,zs,rfl,rfl,hH,hB,hz,q⟩:=h
 cases rx
 obtain ⟨u,rfl,ru⟩:=rv.one
 cases ru
 obtain ⟨z,its,n,r,hl,e⟩:=I.lstM hH;obtain ⟨z2,its2,n2,r2,hl2,e2⟩:=I.lstM hB;have hsz:its.toArray.size+its2.toArray.size<=sizeLine:=by rw[Qh,Qh];omega
 have hlong:¬(!its.toArray.isEmpty&&Builtin.List.listTooLong (its.toArray.size+its2.toArray.size))=true:=by
  rw[Zmk hsz,Bool.and_false];exact Qy
 refine call_meets F.slot_list_extend ⟨_,e,rfl⟩ F.entry_list_extend (F.args_list_extend_2 _ _)
  (AutoSeq1.list_extend_list_list_0 l its.toArray n b its2.toArray n2 hlong (by rw[Qh];omega) ⋯) ⟨e,e2,?_⟩
 refine ⟨.non,_,I.lset (its':=its++its2) hH e (by simp) (r.append r2) ?_,rfl,q⟩;rw[Qg];omega
inductive ZrD (x y:V) (H:Hp) (Q:VK):Prop
 |mk (l b:Addr) (xs zs:List V) (_:x = .ref l) (_:y = .ref b) (_:H l=some (.lst xs)) (_:H b=some (.lst zs)) (_:xs.length+zs.length<=sizeLine) (_:∀p,H p=none->Q (.ref p) (upd H p (.lst (xs++zs)))):ZrD x y H Q
theorem ZkD:OpR X (binaryOp .Add) ZrD:=by
 intro pins s σ H x y v u Q I rx ry h;obtain ⟨l,b,xs,zs,rfl,rfl,hH,hB,hz,q⟩:=h
 cases rx
 cases ry
 obtain ⟨z,its,n,r,hl,e⟩:=I.lstM hH;obtain ⟨z2,its2,n2,r2,hl2,e2⟩:=I.lstM hB;refine PySem.P.add_list e e2 ?_ (by rw[Qh,Qh];omega);have ea:its.toArray++its2.toArray=(its++its2).toArray:=by simp
 rw[ea];exact ⟨.ref _,_,I.lnew (t':=s.toks) (r.append r2) (by rw[Qg];omega),rfl,q _ I.fresh⟩
end
section
variable{prog:Program}{w:World}{A:Around}{E:Value->Shared->Prop}{s:Shared}
end
section
variable{X:Cx}
end
end L2
namespace Att
open PySem PySem.W PySem.Calls PyProof.Rows
theorem Zfc{P:Params}{h:Heap}:∀(ns:List Int) (vs:List Value),WellAll P h vs (ns.map WData.int)->IntsAre vs ns:=by
 intro ns
 induction ns with
 |nil =>
  intro vs w;rw[List.map_nil] at w
  cases w
  exact .nil
 |cons n ns ih =>
  intro vs w;rw[Ur] at w
  cases w with
  |cons a b =>
   cases a
   exact .cons _ _ (ih _ b)
theorem script_of{l:OpenLaw}{n:Nat}(hn:l.most=some n){P:Params}{h:Heap}{args:List WData}{vals:List Value}
    (hpre:l.row.toRowW.claim.pre args=true) (hwl:WellAll P h vals args) :
    ∃a vs ns,vals=[Value.ref a]/\args=[WData.list (ns.map WData.int)]/\h.get? a=some { cls:=.type "list", data:=.seq vs.toArray }/\IntsAre vs ns/\ns.length<=n:=by
  have hsh:WShape.hasAll [] args [.list .int]=true:=(pre_splitW hpre).1;have hc:l.pre.holds [] { args:=args }=true:=(pre_splitW hpre).2;obtain ⟨d,r,rfl,h1,h2⟩:=hasAllW_cons hsh;obtain rfl:=hasAllW_nil h2;obtain ⟨xs,rfl,h3⟩:=hasW_list h1;obtain ⟨ns,rfl⟩:=items_int h3;have hlen:ns.length<=n:=by
    unfold OpenLaw.pre at hc;have h4:(WTm.not (.lt (.lit (.int (n:Int))) (.len (.arg 0)))).holds [] { args:=[.list (ns.map .int)] }=true:=by
      have h4:=(holds_andW hc).1;rw[hn] at h4;exact h4
    have h5:=condW_of h4 (w_not (w_lt w_lit (w_len_list (w_arg rfl))));rw[Q2] at h5;refine Nat.le_of_not_lt λq=>?_;have q':(n:Int)<((ns.length:Nat):Int):=⋯
    first
      | (rw[decide_eq_true q'] at h5; exact absurd h5 ∅)
      | (simp at h5; omega)
  cases hwl with
  | cons w1 w2 =>
    cases w2
    cases w1 with
    | list ho hall=>exact ⟨_,_,ns,rfl,rfl,ho,Zfc ns _ hall,hlen⟩
theorem post_true(l:OpenLaw)(args:List WData):l.row.toRowW.claim.post args (.bool true) args=true :=
 postW_of (r:=l.row.toRowW) (X:=(true==true))
  (show WShape.has [] (.bool true) .bool=true by first|rfl|decide|simp[WShape.has,WShape.arms,WShape.armsAll])
  (show (WTm.eq .res (.lit (.bool true))).value [] { args:=args,res:=some (.bool true),after:=args }=some (.bool (true==true)) from w_eq_bool (w_res rfl) w_lit) rfl
theorem attach_call{l:OpenLaw}{n:Nat}{q:Program}{loose:List Str}{XP:(Str->Option Value)->Heap->Prop}{YP:World->Heap->Prop}{d:DefRec}
    (hn:l.most=some n) (hdf:d.params.defaults=[])
    (call:∀(w:World) (s₀ s₁:Shared) (mg mb:Str->Option Value) (fa:Addr) (o:Obj) (pm cd doc:Value) (a:Addr) (vs:List Value) (ns:List Int),
      Ground q loose [] XP w s₀ mg mb s₁.heap->YP w s₁.heap →
      s₁.heap.get? fa=some o->o.data = .func (docDef d.name d.params d.body d.scope pm cd doc)->s₁.heap.CodeRec cd d.name->mg d.name=some (.ref fa) →
      s₁.heap.get? a=some { cls:=.type "list", data:=.seq vs.toArray }->IntsAre vs ns->ns.length<=n->s₁.gens=#[] →
      codeAny (model l.prog w) callerA (.call (.ref fa) ⟨[.ref a],[]⟩) (λr s'=>r = .ok (.ret (.bool true))/\OldK s₁.heap s'.heap/\s'.os=s₁.os/\AllBare s'.gens) s₁) :
    WalkO q loose XP YP l.row.toRowW d [] (λf vs=>PySem.call f vs):=by
  intro w s₀ s₁ mg mb G Y fa o pm cd doc dV kV ho hd hcd hD hmg hg args vals as hpre hlay hrd hwl hlo;obtain rfl:dV = .none:=Dflts.none hD hdf;obtain rfl:kV = .none:=Dflts.noKw hD;obtain ⟨a,vs,ns,rfl,rfl,hobj,hints,hlen⟩:=script_of hn hpre hwl;refine enter_call (codeAny_mono (call w s₀ s₁ mg mb fa o pm cd doc a vs ns G Y ho (fd_plain hd) hcd hmg hobj hints hlen hg) λr s' hq=>?_);obtain ⟨rfl,h2,h3,h4⟩:=hq;exact ⟨.inl ⟨.bool true,.bool true,[],rfl,λ_=>rfl,.bool true,post_true l _,λ_=>⟨List.Pairwise.nil,λ_ hm=>(nomatch hm)⟩⟩,h2,h3,h4⟩
section
variable{prog:Program}{w:World}{A:Around}{E:Value->Shared->Prop}{s:Shared}{K:Frag}
def ZrE(h:Heap)(L d:Addr):List (Addr×Obj):=(List.range h.objs.size).filterMap λa=>if a=L\/a=d then none else (h.get? a).map λo=>(a,o)
end
end Att
namespace L2
open PySem PySem.Spec PyProof.Rows
theorem Zhs:∀ {vs:List Value} {ns:List Int},IntsAre vs ns->Vals (ns.map V.int) vs
 |_,_,.nil => .nil
 |_,_,.cons n t h => .cons ⟨t,rfl⟩ (Zhs h)
def ZqA(H:Hp):Prop:=∀b,H b=none\/∃o xs,H b=some (.frz o (.lst xs))
theorem Zi6{P:Program}{w:World}{K:ZZfg}{mg mb:Str->Option Value}{CX:CXT}{k:Nat}{fa a:Addr}{fd:FuncData}{x:Str}{sp:Sp}{s₁:Shared}{vs:List Value}{ns:List Int}
    (KX:K.In s₁.heap) (hns:s₁.heap.Ns mainGlobals mg) (hb:s₁.heap.Ns builtinsNs mb) (hbb:∀x:Str,x ≠ "__name__" -> mb x=bootBuiltins x) (hlim:s₁.heap.NoLimit) (hg:s₁.gens=#[])
    (ha:s₁.heap.get? a=some { cls:=.type "list", data:=.seq vs.toArray }) (hi:IntsAre vs ns) (hl:ns.length<=sizeLine) (hr:Room k callerA)
    (F:∀base:Heap,K.In base->base.Ns mainGlobals mg->FnOk P w K mg base CX k fa fd [x] sp) (hbind:∀(s:Shared) (u:Value),BindsTo s fd ⟨[u],[]⟩ [(x,u)])
    (hsp:∀H:Hp,ZqA H->SqL K H a (ns.map V.int)->sp [.ref a] H (λv _=>v = .bl true) λ_ _ _=>False)
    (hCX:∀H e s',CX [] H s₁ (λ_ _ _=>False) e s'->False) :
    codeAny (model P w) callerA (.call (.ref fa) ⟨[.ref a],[]⟩) (λr s'=>r = .ok (.ret (.bool true))/\OldK s₁.heap s'.heap/\s'.os=s₁.os/\AllBare s'.gens) s₁:=by
  have rv:=Zhs hi;have lenV:=hi.length;have core:∀H:Hp,ZqA H->SqL K H a (ns.map V.int)->HOk P w H s₁.heap->(∀b,H b≠none->b=a)->(H a≠none->K.lookup a=none) →
      codeAny (model P w) callerA (.call (.ref fa) ⟨[.ref a],[]⟩) (λr s'=>r = .ok (.ret (.bool true))/\OldK s₁.heap s'.heap/\s'.os=s₁.os/\AllBare s'.gens) s₁:=by
    intro H hO hS hok hA hK;have base_of:∀ {b:Addr} {o:Obj},s₁.heap.get? b=some o->H b=none->(Zmb s₁.heap H).get? b=some o:=λe n=>Zmc e n;have noA:∀ {b:Addr} {o:Obj} {es:Array DictEntry} {ep:Nat},s₁.heap.get? b=some o->o.data = .dict es ep->H b=none:=fun {b o es ep} e d=>by
      cases q:H b with
      | none=>rfl
      | some u =>
        have e':b=a:=hA b (by rw[q]; simp);subst e';rw[ha] at e; cases e;have d':Data.seq vs.toArray _=Data.dict es ep:=d
        cases d'
    have nsK:∀ {b:Addr} {m:Str->Option Value},s₁.heap.Ns b m->(Zmb s₁.heap H).Ns b m:=fun {b m} ⟨o,es,ep,e,d,r⟩=>⟨o,es,ep,base_of e (noA e d),d,r⟩
    have hKb:K.In (Zmb s₁.heap H):=λb o e=>base_of (KX b o e) (by
      cases q:H b with
      | none=>rfl
      | some u =>
        have e':b=a:=hA b (by rw[q]; simp);subst e';rw[hK (by rw[q]; simp)] at e; cases e)
    have hM:Mod K mg (Zmb s₁.heap H):=⟨hKb,nsK hns,⟨mb,nsK hb,hbb⟩,let ⟨mc,h1,h2⟩:=hlim; ⟨mc,nsK h1,h2⟩⟩;have e0:Env0 P w K mg (Zmb s₁.heap H) callerA [] s₁ H:=⟨rfl,hM,λb o e=>Zn4 e,Ui (Zki _ _),trivial,λb hb=>absurd (show b∈([]:ZZla) from hb) (by simp),hok,.of_eq hg⟩;refine codeAny_mono ((F _ hKb (nsK hns)).run callerA [] s₁ H ⟨[.ref a],[]⟩ [.ref a] [.ref a] _ _ hr e0 (hbind s₁ (.ref a)) (.cons rfl .nil) (hsp H hO hS)) λr s' h=>?_
    cases r with
    | error e=>exact (hCX H e s' h).elim
    | ok fl =>
      cases fl with
      | next=>exact False.elim h
      | brk=>exact False.elim h
      | cont=>exact False.elim h
      | ret u =>
        obtain ⟨v,H',os,bare,un,hok',r',q⟩:=h;have q':v = .bl true:=q;subst q';obtain rfl:u=Value.bool true:=r';refine ⟨rfl,OldK.of_keep λb o e=>?_,os,bare⟩
        cases q:H b with
        | none=>exact un.keep b o e q (by intro z; exact absurd (show b∈([]:ZZla) from z) (by simp)) (by simp)
        | some u =>
          rcases hO b with z | ⟨ob,xs,z⟩
          · rw[q] at z; cases z
          · have z2:=un.frzs b ob _ z
            obtain ⟨e1,_⟩:=hok b _ z;obtain ⟨e2,_⟩:=hok' b _ z2;rw[e] at e1; cases e1;exact e2
  cases hk:K.lookup a with
  | some o =>
    have e:=KX a o hk;rw[ha] at e
    cases e
    refine core (λ_=>none) (λ_ => .inl rfl) (.inr ⟨_,vs.toArray,_,hk,rfl,rfl,rfl,by rw[Qh,lenV]; exact hl,by simpa using rv⟩) (λb u z=>by have z':(none:Option HO)=some u:=z; cases z') (λb z=>absurd rfl z) λz=>absurd rfl z
  | none =>
    refine core (λb=>if b=a then some (.frz { cls:=.type "list", data:=.seq vs.toArray } (.lst (ns.map V.int))) else none) (λb=>?_) (.inl (.inr ⟨{ cls:=.type "list", data:=.seq vs.toArray },if_pos rfl⟩)) (λb u z=>?_) (λb z=>?_) λ_=>hk
    · by_cases hb:b=a
      · exact .inr ⟨_,_,if_pos hb⟩
      · exact .inl (if_neg hb)
    · by_cases hb:b=a
      · have z':=(if_pos hb).symm.trans z
        cases z'
        subst hb;exact ⟨ha,by rw[Q2]; exact hl,vs,_,rv,ha⟩
      · have z':=(if_neg hb).symm.trans z
        cases z'
    · by_cases hb:b=a
      · exact hb
      · exact absurd (if_neg hb) z
abbrev KOf{K:ZZfg}{h:Heap}(_:K.In h):ZZfg:=K
theorem walk_of{l:PySem.W.OpenLaw}{n k:Nat}{q:Program}{loose:List Str}{XP:(Str->Option Value)->Heap->Prop}{YP:World->Heap->Prop}{d:DefRec}{K:Params->ZZfg}{CX:World->CXT}{sp:World->Sp}{x:Str}
    (hn:l.most=some n) (hn2:n<=sizeLine) (hdf:d.params.defaults=[]) (hr:Room k callerA)
    (hY:∀(w:World) (h:Heap),YP w h->(K w.params).In h)
    (F:∀(w:World) (mg:ZZmg) (fa:Addr) (h:Heap),(K w.params).In h->h.Ns mainGlobals mg->mg d.name=some (.ref fa) →
      ∃fd:FuncData,(∀(s:Shared) (u:Value),BindsTo s fd ⟨[u],[]⟩ [(x,u)]) ∧
        ∀base:Heap,(K w.params).In base->base.Ns mainGlobals mg->FnOk l.prog w (K w.params) mg base (CX w) k fa fd [x] (sp w))
    (hsp:∀(w:World) (H:Hp) (a:Addr) (ns:List Int),ns.length<=n->ZqA H->SqL (K w.params) H a (ns.map V.int)->sp w [.ref a] H (λv _=>v = .bl true) λ_ _ _=>False)
    (hCX:∀(w:World) (H:Hp) (s:Shared) (e:Value) (s':Shared),CX w [] H s (λ_ _ _=>False) e s'->False) :
    PySem.W.WalkO q loose XP YP l.row.toRowW d [] (λf vs=>PySem.call f vs):=by
  refine Att.attach_call hn hdf λw s₀ s₁ mg mb fa o pm cd doc a vs ns G Y ho hd hcd hmg hobj hints hlen hg=>?_;have KX:=hY w _ Y;obtain ⟨fd,hb,hF⟩:=F w mg fa _ KX G.T.g hmg;exact Zi6 KX G.T.g G.T.b G.T.builtins G.T.nolimit hg hobj hints (Q0 hlen hn2) hr hF hb (λH hO hS=>hsp w H a ns hlen hO hS) λH e s'=>hCX w H s₁ e s'
end L2
/- THE LAST THEOREM (shape; LID,My.* are yours):
   My.Adr: a structure of the addresses that your layer names (classes,functions); My.Txt K t: a structure (Prop) of the equations over K;
   My.txt_mk:{K} {implicit addresses ..} (e1:nsIn K mainGlobals "law" = some (some (.ref f))) (e2:K.lookup f=some ⟨oc,od,.func (fnOf "law" "law" params body scope dV kV doc pm an cdv ct),sl⟩) (e3:codeIn K cdv "law" = true) ..:∃t,My.Txt K t
set_option maxRecDepth 100000 in
set_option maxHeartbeats 0 in
theorem PySem.Challenge.cw_LID_holds : PySem.Challenge.rw_LID.Holds := by
 w_on;o_law;k_head;(case hw=>w_witness2)
 k_fill
 refine L2.walk_of (l:=PySem.Challenge.rw_LID) (n:=63) (k:=40) (x :="script") (CX:=λw => ..) (sp:=λ_=>My.sp_law) rfl ∅ rfl ⟨rfl,∅,∅⟩ (λw h Y=>PySem.W.kIn_of Y) ?F ?S ?C
 case F =>
  intro w mg fa h KX G hmg;have T:∃t,My.Txt (L2.KOf KX) t:=by
   dsimp only[L2.KOf]                          -- K must stand as «<heap const> w.params» for k_is
   refine' My.txt_mk ?e1 ?e2 ?e3 ..
   (case e1=>PySem.W.k_is)                    -- in the order: a name -> its address -> its object -> its parts
   (case e2=>PySem.W.k_is)
   ..
  obtain ⟨t,T⟩:=T;have e0:=hmg.symm.trans (PySem.W.mg_of KX G T.law)
  cases e0                                       -- fa is the law's own address
  exact ⟨_,λs u => .of_eq rfl,λbase kb nb=>My.law_fn T kb nb⟩     -- if «.of_eq rfl» comes too early: refine' ⟨_,?b,λbase kb nb=>My.law_fn T kb nb⟩;exact λs u => .of_eq rfl
 case S=>exact λw H a ns hl hO hS => ..
 case C=>exact ..
(the tactic k_is has no namespace: write k_is) -/
namespace L2
open PySem PySem.Spec PyProof.Rows
def ZaL(s:Stmt)(j:Nat):Stmt:=match s with
 | .ClassDef _ _ _ body _ _ _ _ _ _ _=>body.getD j (.Pass ⟨0,0,0,0⟩)
 |_ => .Pass ⟨0,0,0,0⟩
def Zbs(s:Stmt):Arguments:=match s with
 | .FunctionDef _ a _ _ _ _ _ _ _ _=>a
 |_=>{ posonlyargs:=[],args:=[],vararg:=none,kwonlyargs:=[],kw_defaults:=[],kwarg:=none,defaults:=[] }
def Za7(s:Stmt):List Stmt:=match s with
 | .FunctionDef _ _ b _ _ _ _ _ _ _=>b
 |_=>[]
def Zah(s:Stmt):Scope:=match s with
 | .FunctionDef _ _ _ _ _ _ sc _ _ _=>sc
 |_=>{ kind:=.function,names:=[],isGenerator:=false,isCoroutine:=false }
abbrev CX0:CXT:=λ_ _ _ _ _ _=>False
abbrev E0:XK:=λ_ _ _=>False
theorem Zoi{X:Cx}:Zhm CX0 X E0:=λ_ _ _ _ _ _ _ h=>h.elim
structure Fun (K:ZZfg) (x qual:Str) (st:Stmt) (f:Addr) (fd:FuncData):Prop where
 ex:∃(oc:Value) (od:Option Addr) (kV doc pm:Value) (an:Option Addr) (cdv ct:Value) (osl:Array (Option Value)),
  fd=PySem.W.fnOf x qual (Zbs st) (Za7 st) (Zah st) .none kV doc pm an cdv ct/\K.lookup f=some ⟨oc,od,.func fd,osl⟩/\PySem.W.codeIn K cdv qual=true
 kp:PySem.W.keepIn K (.ref f)=true
section
variable{P:Program}{w:World}{K:ZZfg}{mg:ZZmg}{base:Heap}
theorem Fun.ok{x qual:Str}{st:Stmt}{f:Addr}{fd:FuncData}{N ps:List Str}{k:Nat}{sp:Sp}(F:Fun K x qual st f fd)(S:FnScope N ps (Zah st))(len:∀vs H Q E,sp vs H Q E->vs.length=ps.length)
    (hbody:∀(cdv:Value) (A:Around) (outer:List Env) (s:Shared) (H:Hp) (vs:List V) (Q:VK) (E:XK),Room k (A.deeper (envOfC qual (Zah st) s.heap.objs.size f cdv))->sp vs H Q E →
      ∃t,PSs (Zoe CX0 P w K mg base N qual (Zah st) f cdv A outer s H E).nox (Za7 st) t/\t { nx:=λ_ H'=>Q .non H',rt:=Q } (start N vs) H):FnOk P w K mg base CX0 (k+1) f fd ps sp:=by
  obtain ⟨oc,od,kV,doc,pm,an,cdv,ct,osl,rfl,lk,hcd⟩:=F.ex;refine Zof lk hcd S len λA outer s H vs Q E hr hsp=>?_;obtain ⟨t,h,q⟩:=hbody cdv A outer s H vs Q E hr hsp;exact ⟨t,h.nox,q⟩
theorem Fun.binds{x qual:Str}{st:Stmt}{f:Addr}{fd:FuncData}{ps:List Str}(F:Fun K x qual st f fd)
    (h:∀(kV doc pm:Value) (an:Option Addr) (cdv ct:Value) (us:List Value),us.length=ps.length->bindArgs (PySem.W.fnOf x qual (Zbs st) (Za7 st) (Zah st) .none kV doc pm an cdv ct) ⟨us,[]⟩=pure (ps.zip us)):Binds K fd ps []:=by
  obtain ⟨oc,od,kV,doc,pm,an,cdv,ct,osl,rfl,lk,hcd⟩:=F.ex;exact .all (h kV doc pm an cdv ct)
theorem ZkE{x qual:Str}{st:Stmt}{f:Addr}{oc:Value}{od an:Option Addr}{osl:Array (Option Value)}{kV doc pm cdv ct:Value}(l:K.lookup f=some ⟨oc,od,.func (PySem.W.fnOf x qual (Zbs st) (Za7 st) (Zah st) .none kV doc pm an cdv ct),osl⟩)
    (c:PySem.W.codeIn K cdv qual=true) (k:PySem.W.keepIn K (.ref f)=true):Fun K x qual st f (PySem.W.fnOf x qual (Zbs st) (Za7 st) (Zah st) .none kV doc pm an cdv ct):=⟨⟨oc,od,kV,doc,pm,an,cdv,ct,osl,rfl,l,c⟩,k⟩
end
theorem ZdS{n:Nat}(h:n<=1000):n<sizeLine:=Q5 h ∅
section
variable{X:Cx}
def ZqX:Option NameKind->Bool
 |some .local=>true
 |some .cell=>true
 |some .free=>true
 |_=>false
theorem Zoj{sc:Scope}{x:Str}(h:ZqX (sc.names.lookup x)=true):Vis sc x:=by
 unfold ZqX at h
 split at h
 ·exact .inl (by assumption)
 ·exact .inr (.inl (by assumption))
 ·exact .inr (.inr (by assumption))
 ·cases h
theorem pv(i:Nat){x:Str}{pos:Pos}(hN:X.N[i]?=some x:=by rfl)(hv:ZqX (X.env.scope.names.lookup x)=true:=by rfl)(hd:(x==("__debug__" : Str))=false:=by decide)
    (hcd:(x==("__classdict__" : Str))=false:=by decide):PE X (.Name x pos) (ZqF i):=Zpo hN (Zoj hv) hd hcd
end
theorem Zdt{A B:Prop}(h:B):if false=true then A else B:=by
 rw[if_neg Qy];exact h
theorem ZjK{A B:Prop}(h:A):if true=true then A else B:=by
 rw[if_pos rfl];exact h
theorem Zr9{c A B:Prop}[Decidable c](h1:c->A)(h2:¬c->B):if c then A else B:=by
 by_cases h:c
 ·rw[if_pos h];exact h1 h
 ·rw[if_neg h];exact h2 h
def Same(H H':Hp):Prop:=∀b o,H b=some o->H' b=some o
theorem Same.refl(H:Hp):Same H H:=λ_ _ h=>h
theorem Same.trans{H H1 H2:Hp}(a:Same H H1)(b:Same H1 H2):Same H H2:=λc o h=>b c o (a c o h)
theorem Same.free{H H':Hp}(e:Same H H'){l:Addr}(h:H' l=Option.none):H l=Option.none:=by
 cases q:H l with
 |none=>rfl
 |some o =>
  rw[e l o q] at h
  cases h
theorem Same.seq{K:ZZfg}{H H':Hp}{a:Addr}{xs:List V}(e:Same H H')(h:SqL K H a xs):SqL K H' a xs:=by
 rcases h with (h|⟨o,h⟩)|h
 ·exact .inl (.inl (e _ _ h))
 ·exact .inl (.inr ⟨o,e _ _ h⟩)
 ·exact .inr h
end L2
set_option maxHeartbeats 4000000
namespace L2
open PySem PySem.Spec PyProof.Rows
theorem ZdA{k:Int}{n:Nat}(h:k.natAbs<2^n):Builtin.Int.intBits k<=n:=by
 unfold Builtin.Int.intBits
 split
 ·exact Qf _
 ·rename_i h0
  have hk:k.natAbs≠0:=by
   intro z
   apply h0
   have:k=0:=⋯
   simp[this]
  have:k.natAbs.log2<n:=(Nat.log2_lt hk).mpr h;omega
theorem Zh5:10^150<2^600:=by decide +kernel
theorem Zbt{i j:Int}(h:i.natAbs<=10^150)(h':j.natAbs<=10^150):IntMulOk i j :=
 .of_bits (Q0 (ZdA (n:=600) (Q5 h Zh5)) ∅) (Q0 (ZdA (n:=600) (Q5 h' Zh5)) ∅)
theorem Zok{j:Int}(h:j.natAbs<=10^150):j.natAbs.log2<9000:=by
 rcases Nat.eq_zero_or_pos j.natAbs with z|z
 ·rw[z];decide
 ·exact Ua ((Nat.log2_lt (Nat.ne_of_gt z)).mpr (Q5 h Zh5)) ∅
section
variable{X:Cx}
theorem ZaC:OpR X (binaryOp .Mult) (rI IntMulOk λi j => .int (i*j)):=opI λ_ _ _ _ _ _ _ hc q=>mul_int q hc
theorem Zgq:OpR X (binaryOp .FloorDiv) (rI (λ_ j=>j≠0/\j.natAbs<=10^150) λi j => .int (i.fdiv j)):=opI λ_ _ _ _ _ _ _ hc q=>floordiv_int hc.1 q (.inl (PyProof.noPylong_of_log2 (Zok hc.2)))
theorem ZcX{x:Str}{T:String}{pos:Pos}(hg:Gl X x)(hm:X.mg x=none)(hv:bootBuiltins x=some (.type T))(hn:x ≠"__name__":= by decide) (hd:(x==("__debug__":Str))=false:=by decide):PE X (.Name x pos) (tC (.ty T)):=Zn6 hg hm hv rfl hn hd
theorem Zcy:CallR X (.builtin "isinstance") (λxs H Q=>∃x T t b,xs=[x,.ty T]/\Zi4 X.K H x t/\PySem.W.kitOne X.K t (.type T)=some b/\Q (.bl b) H):=by
 intro pins s σ H xs us Q I r h;obtain ⟨x,T,t,b,rfl,ty,hk,q⟩:=h;obtain ⟨u,w',rfl,r1,r2⟩:=Zkr r
 cases r2
 exact Zkw I r1 ty hk λtk=>⟨.bl b,H,I.tok _,rfl,q⟩
end
theorem Zb8(K:ZZfg)(t:Value)(h:(t==t)=true:=by rfl):PySem.W.kitOne K t t=some true:=by
 unfold PySem.W.kitOne;rw[if_pos h]
theorem ZdT(K:ZZfg){t T:String}{b:Bool}(h0:((Value.type t)==(Value.type T))=false)(h1:PySem.W.kitMeta T=true)(h:(PySem.fastBuiltinMro t).map (·.contains (Value.type T))=some b):PySem.W.kitOne K (.type t) (.type T)=some b:=by
 unfold PySem.W.kitOne PySem.W.kitCls;rw[if_neg (by rw[h0];exact Qy)];show (if PySem.W.kitMeta T=true then PySem.W.subIn K (Value.type t) (Value.type T) else none)=some b;rw[if_pos h1];exact h
theorem ZeM(K:ZZfg):PySem.W.kitOne K (.type "int") (.type "bool")=some false:=ZdT K ‹4› ‹4› ‹4›
section
variable{A B:Prop}
theorem Za8{p:Prop}[Decidable p](h1:p->A)(h2:¬p->B):if decide p=true then A else B:=Zr9 (λc=>h1 (of_decide_eq_true c)) λc=>h2 (of_decide_eq_false (Bool.eq_false_iff.mpr c))
theorem Zol{p:Prop}[Decidable p](h1:¬p->A)(h2:p->B):if (!decide p)=true then A else B:=by
 by_cases h:p
 ·rw[decide_eq_true h];exact Zdt (h2 h)
 ·rw[decide_eq_false h];exact ZjK (h1 h)
theorem Zbx{a b:Int}(h1:a=b->A)(h2:a≠b->B):if decide (V.int a=V.int b)=true then A else B:=Za8 (λe=>h1 (V.int.inj e)) λe=>h2 λz=>e (by rw[z])
theorem ZeN{a b:Int}(h1:a≠b->A)(h2:a=b->B):if (!decide (V.int a=V.int b))=true then A else B:=Zol (λe=>h1 λz=>e (by rw[z])) λe=>h2 (V.int.inj e)
end
theorem Zml{a b:Int}(h:a=b):decide (V.int a=V.int b)=true:=decide_eq_true (by rw[h])
theorem Zh6(a b:Int):decide (V.int a=V.int b)=decide (a=b):=by
 by_cases h:a=b
 ·rw[decide_eq_true h,Zml h]
 ·rw[decide_eq_false h,decide_eq_false λz=>h (V.int.inj z)]
structure Here (K:ZZfg) (mg:ZZmg) (x:Str) (st:Stmt):Prop where
 ex:∃(f:Addr) (fd:FuncData),Fun K x x st f fd/\mg x=some (.ref f)
structure Has (P:Program) (w:World) (K:ZZfg) (mg:ZZmg) (base:Heap) (x:Str) (k:Nat) (ps:List Str) (sp:Sp):Prop where
 ex:∃(f:Addr) (fd:FuncData),FnOk P w K mg base CX0 k f fd ps sp/\mg x=some (.ref f)/\PySem.W.keepIn K (.ref f)=true/\Binds K fd ps []
section
variable{P:Program}{w:World}{K:ZZfg}{mg:ZZmg}{base:Heap}{x:Str}{st:Stmt}{k j:Nat}{ps:List Str}{sp:Sp}
theorem Has.mono(h:Has P w K mg base x j ps sp)(e:j<=k):Has P w K mg base x k ps sp :=
 let ⟨f,fd,a,b,c,d⟩:=h.ex
 ⟨f,fd,a.mono e,b,c,d⟩
theorem Here.has(h:Here K mg x st)(b:∀f fd,Fun K x x st f fd->Binds K fd ps [])(ok:∀f fd,Fun K x x st f fd->FnOk P w K mg base CX0 k f fd ps sp):Has P w K mg base x k ps sp :=
 let ⟨f,fd,F,m⟩:=h.ex
 ⟨f,fd,ok f fd F,m,F.kp,b f fd F⟩
theorem here_mk{h:Heap}{f:Addr}{oc:Value}{od an:Option Addr}{osl:Array (Option Value)}{kV doc pm cdv ct:Value}(X:K.In h)(G:h.Ns mainGlobals mg)(a:PySem.W.nsIn K mainGlobals x=some (some (.ref f)))
    (l:K.lookup f=some ⟨oc,od,.func (PySem.W.fnOf x x (Zbs st) (Za7 st) (Zah st) .none kV doc pm an cdv ct),osl⟩)
    (c:PySem.W.codeIn K cdv x=true) (k:PySem.W.keepIn K (.ref f)=true):Here K mg x st:=⟨f,_,ZkE l c k,PySem.W.mg_of X G a⟩
end
theorem Zam{X:Cx}{x:Str}{k:Nat}{ps:List Str}{sp:Sp}{e:Expr}{es:List Expr}{t:TA}{p pos:Pos}(h:Has X.prog X.w X.K X.mg X.base x k ps sp)(hr:Room k X.A)(hg:Gl X x)(ha:PA X (e::es) t)(hdb:(x==("__debug__" : Str))=false:=by decide)
    (he:starEach (e::es) X.env=(false,eval e X.env)::starEach es X.env:=by rfl) (hpl:(backTo pos (starEach es X.env)).any (·.1)=false:=by rfl):PE X (.Call (.Name x p) (e::es) [] pos) (Zpx sp [] E0 t):=by
  obtain ⟨f,fd,F,hm,hk,hb⟩:=h.ex;exact Zoc F hr hg hm hk hb .nil Zoi ha hdb he hpl
theorem Zag{H:Hp}{p:Addr}(h:H p=none)(o:HO):Same H (upd H p o):=λb u q=>by rw[Zau (Zay q h)];exact q
theorem Same.tup{K:ZZfg}{H H':Hp}{a:Addr}{xs:List V}(e:Same H H')(h:SqT K H a xs):SqT K H' a xs:=by
 rcases h with (h|⟨o,h⟩)|h
 ·exact .inl (.inl (e _ _ h))
 ·exact .inl (.inr ⟨o,e _ _ h⟩)
 ·exact .inr h
def ZjL(cells:List (Str×Addr)):List (Str×NameKind)->List (Str×Addr)->List (Str×Addr)
 | [],cs=>cs
 |(n,k)::r,cs=>ZjL cells r (if k=NameKind.free then (match cells.lookup n with|some a=>(n,a)::cs|none=>cs) else cs)
theorem Zgr{cells:List (Str×Addr)}:∀(ns:List (Str×NameKind)) (cs:List (Str×Addr)),(∀p∈cs,cells.lookup p.1=some p.2)->∀p∈ZjL cells ns cs,cells.lookup p.1=some p.2
 | [],_,h=>h
 |(n,k)::r,cs,h=>by
  refine Zgr r _ λp hp=>?_
  by_cases hk:k=NameKind.free
  ·rw[if_pos hk] at hp
   cases e:cells.lookup n with
   |none=>rw[e] at hp;exact h p hp
   |some a =>
    rw[e] at hp;rcases Qe.mp hp with rfl|hp
    ·exact e
    ·exact h p hp
  ·rw[if_neg hk] at hp;exact h p hp
theorem Zi7{cells:List (Str×Addr)}:∀(ns:List (Str×NameKind)) (cs:List (Str×Addr)),∀p∈cs,p∈ZjL cells ns cs
 | [],_,_,h=>h
 |(n,k)::r,cs,p,h=>by
  refine Zi7 r _ p ?_
  by_cases hk:k=NameKind.free
  ·rw[if_pos hk]
   cases e:cells.lookup n with
   |none=>exact h
   |some a=>exact Wl _ h
  ·rw[if_neg hk];exact h
theorem Zgs{cells:List (Str×Addr)}{x:Str}:∀(ns:List (Str×NameKind)) (cs:List (Str×Addr)),(x,NameKind.free)∈ns->(∃c,cells.lookup x=some c)->∃c,(x,c)∈ZjL cells ns cs
 |(n,k)::r,cs,h,hc=>by
  rcases Qe.mp h with e|h
  ·cases e
   obtain ⟨c,hc⟩:=hc;refine ⟨c,Zi7 r _ _ ?_⟩;rw[if_pos rfl,hc];exact Wj
  ·exact Zgs r _ h hc
theorem Zcz{β:Type}{x:Str}{c:β}:∀ {l:List (Str×β)},(x,c)∈l->∃d,l.lookup x=some d
 |(n,a)::r,h=>by
  by_cases hx:x=n
  ·exact ⟨a,by simp[Wz,hx]⟩
  ·rcases Qe.mp h with e|h
   ·cases e;exact absurd rfl hx
   ·obtain ⟨d,hd⟩:=Zcz h;refine ⟨d,?_⟩;have hb:(x==n)=false:=beq_eq_false_iff_ne.mpr hx
    simp only[Wz,hb]
    exact hd
theorem Zgb{env:Env}{α:Type}(k:List (Str×Addr)->Sem α):∀(ns:List (Str×NameKind)) (cs:List (Str×Addr)),(∀y,(y,NameKind.free)∈ns->∃c,env.cells.lookup y=some c) →
    (forIn ns cs (λ(x:Str×NameKind) (r:List (Str×Addr))=>if (x.2==NameKind.free)=true then (do let a ← cellOf env x.1; pure (ForInStep.yield ((x.1,a)::r))) else pure (ForInStep.yield r)):Sem _)=pure (ZjL env.cells ns cs)
  | [],cs,_=>rfl
  | (n,kd)::r,cs,h=>by
    have ih:=λcs=>Zgb k r cs λy hy=>h y (Wl _ hy);rw[List.forIn_cons]
    by_cases hk:kd=NameKind.free
    · subst hk
      obtain ⟨c,hc⟩:=h n Wj;show ((cellOf env n >>= λa=>pure (ForInStep.yield ((n,a)::cs))) >>= _:Sem _)=_;have hce:cellOf env n=pure c:=by unfold cellOf; rw[hc]
      rw[hce];show (forIn r ((n,c)::cs) _:Sem _)=_;rw[ih];show _=pure (ZjL env.cells r (if NameKind.free=NameKind.free then (match env.cells.lookup n with | some a=>(n,a)::cs | none=>cs) else cs));rw[if_pos rfl,hc]
    · have hb:(kd==NameKind.free)=false:=by simpa using hk
      show ((if (kd==NameKind.free)=true then (do let a ← cellOf env n; pure (ForInStep.yield ((n,a)::cs))) else pure (ForInStep.yield cs)) >>= _:Sem _)=_;rw[hb,if_neg Qy];show (forIn r cs _:Sem _)=_;rw[ih];show _=pure (ZjL env.cells r (if kd=NameKind.free then _ else cs));rw[if_neg hk]
theorem Zgc{scope:Scope}{env:Env}(h:∀y,(y,NameKind.free)∈scope.names->∃c,env.cells.lookup y=some c):closureFor scope env=pure (ZjL env.cells scope.names []):=by
 unfold closureFor;have:=Zgb (env:=env) (α:=List (Str×Addr)) pure scope.names [] h;show (forIn scope.names [] (λ(x:Str×NameKind) (r:List (Str×Addr))=>if (x.2==NameKind.free)=true then (do let a ← cellOf env x.1;pure (ForInStep.yield ((x.1,a)::r))) else pure (ForInStep.yield r)) >>= λcs=>pure cs:Sem _)=_;rw[this]
 rfl
theorem Zi8{scope:Scope}{env:Env}(h:(scope.names.all λy=>!(y.2==NameKind.free)||(env.cells.lookup y.1).isSome)=true):∀y,(y,NameKind.free)∈scope.names->∃c,env.cells.lookup y=some c:=λy hy=>by
 have e:(env.cells.lookup y).isSome=true:=List.all_eq_true.mp h (y,NameKind.free) hy;exact Option.isSome_iff_exists.mp e
def CapsOk(X:Cx)(scope:Scope):List (Nat×Str)->Prop
 | []=>True
 |p::r=>(X.N[p.1]?=some p.2/\scope.names.lookup p.2=some .free/\(X.env.kindOf p.2=some .cell\/X.env.kindOf p.2=some .free))/\CapsOk X scope r
theorem CapsOk.mem{X:Cx}{scope:Scope}:∀ {caps:List (Nat×Str)},CapsOk X scope caps->∀p∈caps,X.N[p.1]?=some p.2/\scope.names.lookup p.2=some .free/\(X.env.kindOf p.2=some .cell\/X.env.kindOf p.2=some .free)
 | [],_,_,h=>nomatch h
 |_::_,⟨h1,h2⟩,p,h=>by
  rcases Qe.mp h with rfl|h
  ·exact h1
  ·exact h2.mem p h
def ZdU(X:Cx)(scope:Scope)(N:List Str)(s₀:Shared)(H₀:Hp)(C:Addr)(fp:ZZla):Cx where
 prog:=X.prog
 w:=X.w
 K:=X.K
 mg:=X.mg
 base:=X.base
 A:=X.A
 N:=N
 s₀:=s₀
 H₀:=H₀
 env:=compEnvC scope (ZjL X.env.cells scope.names []) C X.env
 outer:=X.stack
 stack:=X.stack
 ex:=fp
 fn:=λ_=>false
 calm:=X.calm
 pn:=[]
 xe:=λ_ _=>False
def st0(k:Nat)(caps:List (Nat×Str))(σ:St):St:=List.replicate k none++caps.map λp=>(σ[p.1]?).join
theorem Zht{prog:Program}{w:World}{A:Around}{R:Result->Shared->Prop}{s:Shared}{elt target iter:Expr}{scope:Scope}{pos:Pos}{it acc:Value}{env:Env}(I:Nat->Shared->Prop)
    (turn:∀n s,I n s->wpAny (model prog w) A (pyNext it) (λr s₁=>match r with
      | none=>R (.ok .next) s₁
      | some v=>wpAny (model prog w) A (letOwnedTupleGo target it v) (λ_ s₁=>wpAny (model prog w) A (assign target env v) (λ_ s₂=>wpAny (model prog w) A (eval elt env) (λx s₃ =>
          wpAny (model prog w) A (call (.builtin "list.append") [acc,x]) (λ_ s₄=>∃m,m<n/\I m s₄) (λ_ _=>False) s₃)
          (λ_ _=>False) s₂) (λ_ _=>False) s₁) (λ_ _=>False) s₁) (λ_ _=>False) s)
    (n:Nat) (h:I n s) :
    codeAny (model prog w) A (.compLoop (.ListComp elt [⟨target,iter,[],0⟩] scope pos) 0 it acc env) R s:=by
  refine codeAny_loop rfl I (λn s hI=>?_) n h;show wpAny _ _ ((compTurn (.ListComp elt [⟨target,iter,[],0⟩] scope pos) 0 it acc env).onRaise (λx=>do noteFrame x env; theTreesLotGoes x)) _ _ s;refine wpAny_noted ?_;rw[compTurn_list1];refine wpAny_bind (wpAny_standAt (wpAny_bind (wpAny_mono (turn n s hI) (λr s₁ h₁=>?_) λ_ _ h'=>False.elim h')))
  cases r with
  | none=>exact wpAny_pure h₁
  | some v =>
    refine wpAny_bind (wpAny_mono h₁ (λ_ s₁ h₁=>?_) λ_ _ h'=>False.elim h');exact wpAny_bind (wpAny_mono h₁ (λ_ s₂ h₂=>wpAny_bind (wpAny_bind (wpAny_mono h₂ (λx s₃ h₃=>wpAny_bind (wpAny_mono h₃
      (λ_ s₄ h₄=>wpAny_pure (wpAny_pure ⟨rfl,h₄⟩)) λ_ _ h'=>False.elim h')) λ_ _ h'=>False.elim h'))) λ_ _ h'=>False.elim h')
def Zhu(k:Nat)(caps:List (Nat×Str))(g:TG)(te:TE)(σ:St)(J:It)(H:Hp)(Q:List V->Hp->Prop):Prop :=
 ∃W:Nat->Nat->List V->Hp->Prop,(∃m,W 0 m [] H)/\∀i m ys H',W i m ys H'->ys.length<=sizeLine/\((J.stop i H'/\Q ys H') ∨
  (J.go i H'/\ys.length<sizeLine/\∃N:V->Hp->Prop,(∀v H4,N v H4->∃m',m'<m/\W (i+1) m' (ys++[v]) H4) ∧
   ∀x H2,J.yld i H' x H2->g x (st0 k caps σ) H2 λσ2 H3=>(∀(i:Nat) v,(st0 k caps σ)[i]?=some (some v)->σ2[i]?=some (some v))/\te σ2 H3 N))
def ZpB(k:Nat)(caps:List (Nat×Str))(wi:TI)(g:TG)(te:TE):TE:=λσ H Q=>wi σ H λJ H1=>Zhu k caps g te σ J H1 λys H2=>∀D,H2 D=none->Q (.ref D) (upd H2 D (.lst ys))
section
variable{X:Cx}{tg iter elt:Expr}{scope:Scope}{pos:Pos}{wi:TI}{g:TG}{te:TE}{own:List Str}{caps:List (Nat×Str)}
theorem Zhv{scope:Scope}{env:Env}{x:Str}(hx:scope.names.lookup x=some .free):(relabel scope env).names.lookup x=some .cell\/(relabel scope env).names.lookup x=some .free:=by
 unfold relabel;show (scope.names.map _).lookup x=_\/(scope.names.map _).lookup x=_;generalize scope.names=ns at hx
 induction ns with
 |nil=>simp at hx
 |cons p r ih =>
  obtain ⟨n,k⟩:=p;rw[Ur]
  by_cases hn:x=n
  ·subst hn
   simp only[Wz,beq_self_eq_true] at hx
   cases hx
   by_cases hc:((NameKind.free==NameKind.free)&&env.scope.kind == .function&&env.kindOf x==some .cell)=true
   ·left
    show List.lookup x ((if _=true then (x,NameKind.cell) else (x,NameKind.free))::_)=_;rw[if_pos hc]
    simp[Wz]
   ·right
    show List.lookup x ((if _=true then (x,NameKind.cell) else (x,NameKind.free))::_)=_;rw[if_neg hc]
    simp[Wz]
  ·have hb:(x==n)=false:=beq_eq_false_iff_ne.mpr hn
   simp only[Wz,hb] at hx
   have:=ih hx;show List.lookup x ((if _=true then (n,NameKind.cell) else (n,k))::_)=_\/List.lookup x ((if _=true then (n,NameKind.cell) else (n,k))::_)=_
   split <;> (simp only[Wz,hb];exact this)
theorem ZeO{scope:Scope}{env:Env}{x:Str}(hc:∀y∈scope.names,y.2 ≠ .cell)(hx:(relabel scope env).names.lookup x=some .cell\/(relabel scope env).names.lookup x=some .free):(x,NameKind.free)∈scope.names:=by
 unfold relabel at hx;have hx:(scope.names.map λ(n,k)=>if (k==NameKind.free&&env.scope.kind == .function&&env.kindOf n==some .cell) then (n,NameKind.cell) else (n,k)).lookup x=some .cell\/(scope.names.map λ(n,k)=>if (k==NameKind.free&&env.scope.kind == .function&&env.kindOf n==some .cell) then (n,NameKind.cell) else (n,k)).lookup x=some .free:=hx;generalize scope.names=ns at hx hc
 induction ns with
 |nil=>simp at hx
 |cons p r ih =>
  obtain ⟨n,k⟩:=p;rw[Ur] at hx;have hr:=λz=>ih z (λy hy=>hc y (Wl _ hy))
  by_cases hn:x=n
  ·subst hn
   by_cases hk:k=NameKind.free
   ·subst hk;exact Wj
   ·have hb:(k==NameKind.free)=false:=by simpa using hk
    have hx':List.lookup x ((x,k)::List.map (λ(p:Str×NameKind)=>match p with|(n,k)=>if (k==NameKind.free&&env.scope.kind == .function&&env.kindOf n==some .cell)=true then (n,NameKind.cell) else (n,k)) r)=some .cell\/List.lookup x ((x,k)::List.map (λ(p:Str×NameKind)=>match p with|(n,k)=>if (k==NameKind.free&&env.scope.kind == .function&&env.kindOf n==some .cell)=true then (n,NameKind.cell) else (n,k)) r)=some .free:=by
     simpa [hb] using hx
    simp only[Wz,beq_self_eq_true,Option.some.injEq] at hx'
    rcases hx' with e|e
    ·exact absurd e (hc (x,k) Wj)
    ·exact absurd e hk
  ·have hb:(x==n)=false:=beq_eq_false_iff_ne.mpr hn;refine Wl _ (hr ?_);have hx2:List.lookup x ((if (k==NameKind.free&&env.scope.kind == .function&&env.kindOf n==some .cell)=true then (n,NameKind.cell) else (n,k))::List.map (λ(p:Str×NameKind)=>match p with|(n,k)=>if (k==NameKind.free&&env.scope.kind == .function&&env.kindOf n==some .cell)=true then (n,NameKind.cell) else (n,k)) r)=some .cell\/List.lookup x ((if (k==NameKind.free&&env.scope.kind == .function&&env.kindOf n==some .cell)=true then (n,NameKind.cell) else (n,k))::List.map (λ(p:Str×NameKind)=>match p with|(n,k)=>if (k==NameKind.free&&env.scope.kind == .function&&env.kindOf n==some .cell)=true then (n,NameKind.cell) else (n,k)) r)=some .free:=hx
   split at hx2 <;> (simp only[Wz,hb] at hx2;exact hx2)
theorem ZkF{pins:List (Addr×Obj)}{σ:St}{H:Hp}{s:Shared}{fp:ZZla}{C:Addr}{N:List Str}(I:Inv X pins σ H s)(hkind:scope.kind = .function)(hcell:∀y∈scope.names,y.2 ≠ .cell)
    (hfree:∀y,(y,NameKind.free)∈scope.names->∃c,X.env.cells.lookup y=some c) (hC:s.heap.objs.size<=C) (hf:∀b∈fp,Zkl X pins H b) (hlt:∀b∈fp,b<s.heap.objs.size):(ZdU X scope N s H C fp).Ok:=by
  have sub:∀x c,(ZjL X.env.cells scope.names []).lookup x=some c->X.env.cells.lookup x=some c:=λx c e=>Zgr scope.names [] (λp hp=>(nomatch hp)) (x,c) (PySem.mem_of_lookup e);refine ⟨I.ok.mod,hkind,I.ok.glob,I.ok.blt,hC,λx y c h1 h2=>I.ok.inj x y c (sub x c h1) (sub y c h2),λx hx=>?_,λx c h=>(Qy h).elim,I.ok.hd,I.ok.frames,.inl rfl,λb hb=>⟨?_,λx c e=>(hf b hb).2.2.2.2.1 x c (sub x c e)⟩,I.bs,Q0 I.ok.bsz I.sz,λb o e hb=>?_,λb hb z=>?_,I.stack,I.stkFree⟩
  · obtain ⟨c,hc⟩:=Zgs scope.names [] (ZeO hcell hx) (hfree x (ZeO hcell hx))
    exact Zcz hc
  · exact Qi (Q8 (hlt b hb) hC)
  · rcases (hf b hb).2.2.2.1 with z | z
    · exact I.ok.noex b o e z
    · exact absurd (Q8 (Heap.lt_size e) (Q0 I.ok.bsz z)) (Wd _)
  · rcases Qe.mp (I.stkSub b z) with e | e
    · exact (hf b hb).2.1 e
    · exact (hf b hb).2.2.1 e
theorem Zom(k:Nat)(caps:List (Nat×Str))(σ:St):(st0 k caps σ).length=k+caps.length:=by
 unfold st0;rw[Qg,Wa,Q2]
theorem Zon{k:Nat}{caps:List (Nat×Str)}{σ:St}{i:Nat}{v:V}(h:(st0 k caps σ)[i]?=some (some v)):k<=i/\∃p,caps[i-k]?=some p/\σ[p.1]?=some (some v):=by
 unfold st0 at h
 by_cases hi:i<k
 ·rw[Wh (by rw[Wa];exact hi),Uj,if_pos hi] at h
  cases h
 ·have hk:k<=i:=Nat.not_lt.mp hi;refine ⟨hk,?_⟩;rw[Wo (by rw[Wa];exact hk),Wa,Qb] at h
  cases e:caps[i-k]? with
  |none=>rw[e] at h;cases h
  |some p =>
   rw[e] at h;refine ⟨p,rfl,?_⟩;have h':(σ[p.1]?).join=some v:=Option.some.inj h
   cases q:σ[p.1]? with
   |none=>rw[q] at h';cases h'
   |some o=>rw[q] at h';cases o with
    |none=>cases h'
    |some w=>cases h';rfl
theorem Zhw{pins:List (Addr×Obj)}{σ:St}{H:Hp}{s:Shared}{fp:ZZla}{it:Addr}{tn:Nat->Heap->Prop}{J:It}{E:Value->Shared->Prop}{RR:Value->Addr->Result->Shared->Prop}{QL:List V->Hp->Prop}
    (I:Inv X pins σ H s) (hc:X.calm=true) (T:Turn X.prog X.w X.K tg J fp it tn) (st:tn 0 s.heap) (hf:∀b∈fp,Zkl X pins H b)
    (hkind:scope.kind = .function) (hcell:∀y∈scope.names,y.2 ≠ .cell) (hfree:∀y,(y,NameKind.free)∈scope.names->∃c,X.env.cells.lookup y=some c) (hcap:CapsOk X scope caps)
    (hg:∀s₀ H₀ C,PG (ZdU X scope (own++caps.map (·.2)) s₀ H₀ C fp) tg g) (he:∀s₀ H₀ C,PE (ZdU X scope (own++caps.map (·.2)) s₀ H₀ C fp) elt te)
    (hB:Zhu own.length caps g te σ J H QL)
    (fin:∀D C s' m ys H',s.heap.objs.size<=C->D≠C->s'.heap.Ns C m->Inv X pins σ (upd H' D (.lst ys)) s'->H' D=none->H' C=none->QL ys H'->RR (.ref D) C (.ok .next) s') :
    wpAny (model X.prog X.w) X.A (newList []) (λacc s₃=>wpAny (model X.prog X.w) X.A (newFunctionEnv scope X.env.globals (ZjL X.env.cells scope.names []) [] X.env.qual none .none (some X.env)) (λcenv s₄ =>
      codeAny (model X.prog X.w) X.A (.compStart (.ListComp elt [⟨tg,iter,[],0⟩] scope pos) 0 (.ref it) acc { cenv with scope:=relabel scope X.env }) (RR acc cenv.locals) s₄) E s₃) E s:=by
  refine wpAny_newObj_type (wpAny_newFunctionEnv hcell (by intro y hy; simp at hy) (λh₁ hns₁ hsb₁=>?_) hkind)
  dsimp only at hns₁ hsb₁ ⊢
  generalize hH2:s.heap.push { cls:=.type "list", dict:=none,data:=.seq ([]:List Value).toArray }=H2 at hns₁ hsb₁ ⊢;have hC:H2.objs.size=s.heap.objs.size+1:=by rw[<-hH2,Heap.size_push]
  generalize hCC:H2.objs.size=C at *;have hCle:s.heap.objs.size<=C:=by rw[hC]; exact Nat.le_succ _
  generalize hDD:s.heap.objs.size=D at *;have hDC:D≠C:=by rw[hC]; exact Qi (Nat.lt_succ_self _)
  have below:∀b,b<D->b≠C/\b≠D:=λb hb=>⟨by rw[hC]; exact Qi (Nat.lt_succ_of_lt hb),Qi hb⟩;have lts:∀ {b o},s.heap.get? b=some o->b<D:=fun {b o} e=>by rw[<-hDD]; exact Heap.lt_size e
  have old:∀b o,s.heap.get? b=some o->h₁.get? b=some o:=λb o e=>hsb₁.extBut b o (below b (lts e)).1 (Heap.get?_push_of_some _ (hH2 ▸ Heap.get?_push_of_some _ e));have hacc:h₁.get? D=some { cls:=.type "list", data:=.seq ([]:List Value).toArray 0 }:=hsb₁.extBut _ _ hDC (Heap.get?_push_of_some _ (hH2 ▸ (hDD ▸ Heap.get?_push_size _ rfl)));have hlt:∀b∈fp,b<D:=λb hb=>let ⟨o,e,_⟩:=T.obj 0 _ st b hb; lts e;have freshS:∀b,D<=b->s.heap.get? b=none:=λb hb=>by
    cases e:s.heap.get? b with
    | none=>rfl
    | some o=>exact absurd (lts e) (Nat.not_lt.mpr hb)
  have nH:∀b,D<=b->H b=none:=λb hb=>I.hok.fresh (by rw[hDD]; exact hb)
  let Y:Cx:=ZdU X scope (own++caps.map (·.2)) s H C fp
  have okY:Y.Ok:=ZkF I hkind hcell hfree (by rw[hDD]; exact hCle) hf (by rw[hDD]; exact hlt);have sub:∀x c,(ZjL X.env.cells scope.names []).lookup x=some c->X.env.cells.lookup x=some c:=λx c e=>Zgr scope.names [] (λp hp=>(nomatch hp)) (x,c) (PySem.mem_of_lookup e);have celllt:∀x c,X.env.cells.lookup x=some c->c<D:=λx c e=>by
    obtain ⟨v,o,ho,_⟩:=I.cell x c e;exact lts ho
  have stklt:∀b∈frs X.stack,b<D:=λb hb=>by
    rcases Qe.mp (I.stkSub b hb) with e | e
    · rw[e,<-hDD]; exact I.lt
    · obtain ⟨_,o,ho,_⟩:=I.funs.mem e
      exact lts ho
  have I0:Inv Y [] (st0 own.length caps σ) H { s with heap:=h₁,toks:=s.toks+([]:List (Str×Value)).length }:=by
    refine ⟨okY,rfl,I.bare,Un.kept old,⟨_,hns₁,λi x v h1 h2 h3=>?_⟩,λx c e=>?_,nH C hCle,λx c e=>I.freeC x c (sub x c e),λp hp=>?_,I.hok.kept old,?_⟩
    · obtain ⟨hk,p,hp,hv⟩:=Zon h2
      have h1':caps[i-own.length]?.map (·.2)=some x:=by
        have:(own++caps.map (·.2))[i]?=some x:=h1;rw[Wo hk,Qb] at this;exact this
      rw[hp] at h1'
      cases h1'
      obtain ⟨q1,q2,q3⟩:=hcap.mem p (Qc hp);obtain ⟨m,hn,hl⟩:=I.loc;obtain ⟨u,r,l⟩:=hl p.1 p.2 v q1 hv (by rcases q3 with z | z; exact .inr (.inl z); exact .inr (.inr z));refine ⟨u,r,.inr ⟨Zhv q2,?_⟩⟩;rcases l with ⟨z,_⟩ | ⟨_,c,hc',z⟩
      · rcases q3 with y | y <;> (rw[y] at z; cases z)
      · have hm:(p.2,NameKind.free)∈scope.names:=PySem.mem_of_lookup q2
        obtain ⟨d,hd⟩:=Zgs scope.names [] hm ⟨c,hc'⟩;obtain ⟨d',hd'⟩:=Zcz hd;have e:=sub _ _ hd';rw[hc'] at e
        cases e
        obtain ⟨oc,ho,hdt⟩:=z;exact ⟨c,hd',oc,old _ _ ho,hdt⟩
    · obtain ⟨v,o,ho,hd⟩:=I.cell x c (sub x c e)
      exact ⟨v,o,old _ _ ho,hd⟩
    · exact absurd (show p∈([]:List (Addr×Obj)) from hp) (by simp)
    · rw[Zom]
      show _=(own++caps.map (·.2)).length;rw[Qg,Q2]
  have pinD:∀ {its:List Value} {n:Nat} {σ':St} {H':Hp} {s':Shared},Inv Y [] σ' H' s'->H' D=none->s'.heap.get? D=some { cls:=.type "list", data:=.seq its.toArray n }->Inv Y [(D,{ cls:=.type "list", data:=.seq its.toArray n })] σ' H' s':=fun {its n σ' H' s'} J hn e =>
    J.pins_of λp hp=>by
      have ep:p=(D,{ cls:=.type "list", data:=.seq its.toArray n }):=Q6.mp hp;subst ep;refine ⟨e,hn,hDC,λz=>?_,λv z=>by cases z⟩;exact absurd (stklt D z) (Wd _)
  obtain ⟨W,⟨m0,w0⟩,turn⟩:=hB;have fpY:∀ {H':Hp} {pins':List (Addr×Obj)},(∀b∈fp,H' b=none)->(∀p∈pins',∀b∈fp,p.1≠b)->∀b∈fp,Zkl Y pins' H' b:=fun {H' pins'} hn hp b hb =>
    ⟨hn b hb,(okY.exf b hb).1,okY.exfs b hb,.inl hb,(okY.exf b hb).2,λp q=>hp p (by simpa [Y,ZdU] using q) b hb⟩
  have loop:∀s₃:Shared,s₃={ s with heap:=h₁,toks:=s.toks+([]:List (Str×Value)).length } →
      codeAny (model X.prog X.w) X.A (.compLoop (.ListComp elt [⟨tg,iter,[],0⟩] scope pos) 0 (.ref it) (.ref D) (compEnvC scope (ZjL X.env.cells scope.names []) C X.env)) (RR (.ref D) C) s₃:=by
    rintro s₃ rfl;refine Zht (λk s'=>∃(i:Nat) (ys:List V) (its:List Value) (n:Nat) (H':Hp),Inv Y [(D,{ cls:=.type "list", data:=.seq its.toArray n })] (st0 own.length caps σ) H' s'/\tn i s'.heap/\(∀b∈fp,H' b=none)/\Vals ys its/\W i k ys H') ?_ m0
      ⟨0,[],[],0,H,pinD I0 (nH D (Q3 _)) hacc,T.keep _ _ _ st λb _ o e=>old b o e,λb hb=>(hf b hb).1,.nil,w0⟩
    rintro k s3 ⟨i,ys,its,n,H3,I3,st3,fr3,rv,w3⟩;obtain ⟨pD,nD,_⟩:=I3.pin (D,{ cls:=.type "list", data:=.seq its.toArray n }) (Wg _ Wj);have ff:=fpY (pins':=[(D,{ cls:=.type "list", data:=.seq its.toArray n })]) fr3 (λp hp b hb=>by
      rw[Q6.mp hp]; exact (Ne.symm (below b (hlt b hb)).2))
    obtain ⟨hsz,turn⟩:=turn i k ys H3 w3;rcases turn with ⟨stop,q⟩ | ⟨go,hsz',NN,hNN,step⟩
    · refine thn (T.done Y rfl rfl rfl hc i _ s3 _ H3 _ I3 ff st3 stop) λr s4 ⟨hr,I4⟩=>?_
      subst hr;obtain ⟨m4,hn4,_⟩:=I4.loc;obtain ⟨pD4,nD4,_⟩:=I4.pin (D,{ cls:=.type "list", data:=.seq its.toArray n }) (Wg _ Wj);refine fin D C s4 m4 ys H3 hCle hDC hn4 ?_ nD4 I4.free q;have hk:=I4.base;have hok4:HOk X.prog X.w H3 s4.heap:=I4.hok;have neD:∀b u,H3 b=some u->b≠D:=λb u e z=>by rw[z,nD4] at e; cases e
      refine I.call' (ch:=fp) I4.os ⟨λb o e n hb hx=>hk.keep b o e n hb hx,λb o e n hb hx=>hk.slot b o e n hb hx,λb o e n hx=>?_,λb o e hx=>hk.there b o e hx,λb xs e=>?_,λb o u e=>?_,λb ps e=>?_⟩ ?_ I4.bare ?_
      · rw[Zau (below b (lts e)).2]; exact hk.free b o e n hx
      · have:=hk.tups b xs e
        rw[Zau (neD b _ this)]; exact this
      · have:=hk.frzs b o u e
        rw[Zau (neD b _ this)]; exact this
      · obtain ⟨more,e'⟩:=hk.tbls b ps e
        exact ⟨more,by rw[Zau (neD b _ e')]; exact e'⟩
      · intro b u e
        by_cases hb:b=D
        · subst hb
          rw[Zaf] at e
          cases e
          exact ⟨hsz,its,n,rv,pD4⟩
        · rw[Zau hb] at e
          exact (hok4 b u e).stay (λc v _ q=>q) (λc q=>by rw[Zau (neD c _ q)]; exact q) λc xs q=>by rw[Zau (neD c _ q)]; exact q
      · intro b hb
        obtain ⟨_,f1,_,f3,f4,f5⟩:=hf b hb;exact ⟨f3,f1,f4,f5⟩
    · refine thn (T.item Y rfl rfl rfl hc i _ s3 _ H3 _ I3 ff st3 go) λr s4 ⟨u,hr,h4⟩=>?_
      subst hr;refine thn h4 λ_ s5 ⟨x,H5,I5,r5,y5,st5,fr5⟩=>?_;have ff5:=fpY (pins':=[(D,{ cls:=.type "list", data:=.seq its.toArray n })]) fr5 (λp hp b hb=>by
        rw[Q6.mp hp]; exact (Ne.symm (below b (hlt b hb)).2))
      have I5':=I5.pinned ff5 (T.obj _ _ st5);refine thn (hg s H C _ s5 _ H5 x u _ I5' r5 (step x H5 y5)) λ_ s6 ⟨σ6,H6,I6,wk,q6⟩=>?_;refine thn (he s H C _ s6 σ6 H6 _ I6 q6) λy s7 ⟨v,H7,I7,r7,n7⟩=>?_;obtain ⟨m',hm,w7⟩:=hNN v H7 n7;obtain ⟨pD7,nD7,_,_,_⟩:=I7.pin (D,{ cls:=.type "list", data:=.seq its.toArray n }) (Wg _ (List.mem_append_left _ Wj));refine append_at (n:=n) pD7 (λh' hs' hD'=>?_) (by rw[Qh,<-rv.length]; exact hsz);have st7:tn (i+1) s7.heap:=T.keep _ _ _ st5 λb hb o e=>(I7.pin (b,o) (Wg _ (Wg _ (Zdi hb e)))).1;have fr7:∀b∈fp,H7 b=none:=λb hb=>by
        obtain ⟨o,e,d⟩:=T.obj _ _ st5 b hb;exact (I7.pin (b,o) (Wg _ (Wg _ (Zdi hb e)))).2.1
      have I8:Inv Y [] σ6 H7 s7:=I7.pins_of λp hp=>(nomatch hp);have I9:Inv Y [] (st0 own.length caps σ) H7 s7:=I8.weak (by rw[I0.len,I8.len]) wk;have I10:Inv Y [] (st0 own.length caps σ) H7 { s7 with heap:=h' }:=I9.turned (t':=s7.toks) (it:=D) (λb o hb e=>hs'.extBut b o hb e) nD7 hDC (.inr (Ui hDD)) (λx c e=>Qi (celllt x c (sub x c e))) (λp hp=>absurd (show p∈([]:List (Addr×Obj)) from hp) (by simp));refine ⟨m',hm,i+1,ys++[v],its++[y],n+1,H7,pinD I10 nD7 ?_,?_,fr7,rv.append (.cons r7 .nil),w7⟩
      · rw[hD',List.push_toArray]
      · exact T.keep _ _ _ st7 λb hb o e=>hs'.extBut b o (below b (hlt b hb)).2 e
  have tn1:tn 0 h₁:=T.keep _ _ _ st λb _ o e=>old b o e;exact codeAny_compStart_list (loop _ rfl) (T.self _ 0 _ _ _ tn1 (loop _ rfl))
theorem ZaU(own:List Str)(caps:List (Nat×Str))(hc:X.calm=true)(hi:PI X tg iter wi)(hg:∀fp s₀ H₀ C,PG (ZdU X scope (own++caps.map (·.2)) s₀ H₀ C fp) tg g)(he:∀fp s₀ H₀ C,PE (ZdU X scope (own++caps.map (·.2)) s₀ H₀ C fp) elt te)
    (hcap:CapsOk X scope caps)
    (hfr:(scope.names.all λy=>!(y.2==NameKind.free)||(X.env.cells.lookup y.1).isSome)=true:=by rfl)
    (hkind:scope.kind = .function:=by rfl) (hcell:∀y∈scope.names,y.2 ≠ .cell:=by decide +kernel)
    (hnames:∀y∈scope.names,y.2 = .local->scope.names.lookup y.1=some .local:=by decide +kernel) (hs:∀x,foldedSetIterable iter X.env x=pure x:=by intro _; rfl) :
    PE X (.ListComp elt [⟨tg,iter,[],0⟩] scope pos) (ZpB own.length caps wi g te):=by
  intro pins s σ H Q I h;have hfree:=Zi8 hfr;have hclos:=Zgc hfree;rw[eval_ListComp];refine wpAny_comprehension_free (use:=none) rfl hs hclos hkind hnames (thn (hi pins s σ H _ I h) λv s1 h1=>thn h1 λitv s2 h2=>?_);obtain ⟨it,fp,tn,J,H2,e,I2,T,st2,f2,hB⟩:=h2;subst e;refine Zhw (RR:=λacc C=>compPost (model X.prog X.w) X.A X.xe none (EP X pins σ Q) acc C) I2 hc T st2 f2 hkind hcell hfree hcap (hg fp) (he fp) hB ?_;intro D C s' m ys H' hC hDC hn I3 nD nC q;refine ⟨m,hn,λh' hs'=>⟨.ref D,upd H' D (.lst ys),?_,rfl,q D nD⟩⟩;exact I3.turned (t':=s'.toks) (it:=C) (λb o hb e=>hs'.extBut b o hb e) (by rw[Zau (Ne.symm hDC)]; exact nC) (Ne.symm (Qi (Q8 I2.lt hC))) (.inr (Q0 I2.sz hC))
    (λx c e z=>by
      obtain ⟨v,o,ho,_⟩:=I2.cell x c e;rw[z] at ho;exact absurd (Q8 (Heap.lt_size ho) hC) (Wd _))
    (λp hp z=>by
      have:=(I2.pin p hp).1;rw[z] at this;exact absurd (Q8 (Heap.lt_size this) hC) (Wd _))
theorem Zbz{i:Nat}{x:Str}{pos' spos:Pos}(own:List Str)(caps:List (Nat×Str))(hN:X.N.Nodup)(hx1:X.N[i]?=some x)(hx:X.env.scope.names.lookup x=some .local)(hc:X.calm=true)(hi:PI X tg iter wi)
    (hg:∀fp s₀ H₀ C,PG (ZdU X scope (own++caps.map (·.2)) s₀ H₀ C fp) tg g) (he:∀fp s₀ H₀ C,PE (ZdU X scope (own++caps.map (·.2)) s₀ H₀ C fp) elt te)
    (hcap:CapsOk X scope caps)
    (hfr:(scope.names.all λy=>!(y.2==NameKind.free)||(X.env.cells.lookup y.1).isSome)=true:=by rfl)
    (hsw:swapsWith (.ListComp elt [⟨tg,iter,[],0⟩] scope pos) (some (.Name x pos')) spos.line X.env=pure true:=by rfl)
    (hkind:scope.kind = .function:=by rfl) (hcell:∀y∈scope.names,y.2 ≠ .cell:=by decide +kernel)
    (hnames:∀y∈scope.names,y.2 = .local->scope.names.lookup y.1=some .local:=by decide +kernel) (hs:∀x,foldedSetIterable iter X.env x=pure x:=by intro _; rfl) :
    PS X (.Assign [.Name x pos'] (.ListComp elt [⟨tg,iter,[],0⟩] scope pos) spos) (ZqM (ZpB own.length caps wi g te) (Zdz i)):=by
  intro pins s σ H D0 I h;have hfree:=Zi8 hfr;have hclos:=Zgc hfree;rw[exec_Assign_Name_used _ _ _ _ hsw];refine wpAny_bind (wpAny_standAt (wpAny_bind ?_));show wpAny _ X.A (do let _ ← comprehension (.ListComp elt [⟨tg,iter,[],0⟩] scope pos) scope X.env _ (newList []) false (eval iter X.env) (some (assign (.Name x pos') X.env))) _ _ s;refine wpAny_bind (wpAny_mono (wpAny_comprehension_free (use:=some (assign (.Name x pos') X.env)) (Q:=λ_ s'=>SP X pins D0 .next s') rfl hs hclos hkind hnames (thn (hi pins s σ H _ I h) λv s1 h1=>thn h1 λitv s2 h2=>?_)) (λ_ s' hq=>wpAny_pure (wpAny_pure hq)) λ_ _ e=>e);obtain ⟨it,fp,tn,J,H2,e,I2,T,st2,f2,hB⟩:=h2;subst e;refine Zhw (RR:=λacc C=>compPost (model X.prog X.w) X.A X.xe (some (assign (.Name x pos') X.env)) (λ_ s'=>SP X pins D0 .next s') acc C) I2 hc T st2 f2 hkind hcell hfree hcap (hg fp) (he fp) hB ?_;intro D C s' m ys H' hC hDC hn I3 nD nC q;show wpAny _ X.A (assign (.Name x pos') X.env (.ref D)) _ _ _;have hCl:C≠X.env.locals:=Ne.symm (Qi (Q8 I2.lt hC));have hCc:∀x c,X.env.cells.lookup x=some c->c≠C:=λx c e z=>by
    obtain ⟨v,o,ho,_⟩:=I2.cell x c e;rw[z] at ho;exact absurd (Q8 (Heap.lt_size ho) hC) (Wd _)
  refine wpAny_assign_Name (Zhe I3 hN hx1 (.inl hx) (v:=.ref D) rfl (λs4 I4 ⟨a,sb,ha⟩=>?_) (.inr hx));have hCa:C≠a:=by
    rcases ha with e | e
    · rw[e]; exact hCl
    · exact Ne.symm (hCc x a e)
  refine ⟨m,hn.sameBut sb hCa,λh' hs'=>⟨_,_,?_,q D nD⟩⟩;exact I4.turned (t':=s4.toks) (it:=C) (λb o hb e=>hs'.extBut b o hb e) (by rw[Zau (Ne.symm hDC)]; exact nC) hCl (.inr (Q0 I2.sz hC)) hCc
    (λp hp z=>by
      have:=(I2.pin p hp).1;rw[z] at this;exact absurd (Q8 (Heap.lt_size this) hC) (Wd _))
theorem ZpC{x:V}{cs:List (Option V)}:∀(i:Nat) v,((none:Option V)::cs)[i]?=some (some v)->((some x)::cs)[i]?=some (some v)
 |0,v,h=>by simp at h
 |i+1,v,h=>by simpa using h
theorem ZaG{K:ZZfg}{a:Addr}{xs:List V}{σ:St}{H:Hp}{QL:List V->Hp->Prop}(Pv:Nat->List V->Hp->Prop)(hz:xs.length<=1000)(h0:Pv 0 [] H)(hl:∀i ys H,i<=xs.length->Pv i ys H->SqL K H a xs)
    (hs:∀i x ys H,xs[i]?=some x->ys.length=i->Pv i ys H->te (some x::caps.map λp=>(σ[p.1]?).join) H λv H'=>Pv (i+1) (ys++[v]) H') (hd:∀ys H,ys.length=xs.length->Pv xs.length ys H->QL ys H) :
    Zhu 1 caps (Zdz 0) te σ (Itl K a) H QL:=by
  have hz':xs.length<sizeLine:=ZdS hz;refine ⟨λi m ys H=>m=xs.length-i/\i<=xs.length/\ys.length=i/\Pv i ys H,⟨_,rfl,Qf _,rfl,h0⟩,?_⟩;rintro i m ys H' ⟨rfl,hi,hy,p⟩;have q:=hl i ys H' hi p;refine ⟨⋯,?_⟩
  by_cases hlt:i<xs.length
  · refine .inr ⟨⟨xs,xs[i],q,by simp[hlt]⟩,⋯,λv H4=>Pv (i+1) (ys++[v]) H4,λv H4 p'=>⟨xs.length-(i+1),⋯,rfl,hlt,by rw[Qg,hy]; rfl,p'⟩,λx H2 y=>?_⟩
    obtain ⟨e,y⟩:=y;subst e;exact ⟨ZpC,hs i x ys _ (y xs q) hy p⟩
  · have e:i=xs.length:=⋯
    subst e;exact .inl ⟨⟨xs,q,Q3 _⟩,hd ys H' hy p⟩
theorem Zbc{lo:Int}{n:Nat}{σ:St}{H:Hp}{QL:List V->Hp->Prop}(Pv:Nat->List V->Hp->Prop)(hz:n<=1000)(h0:Pv 0 [] H)
    (hs:∀i ys H,i<n->ys.length=i->Pv i ys H->te (some (.int (lo+i))::caps.map λp=>(σ[p.1]?).join) H λv H'=>Pv (i+1) (ys++[v]) H') (hd:∀ys H,ys.length=n->Pv n ys H->QL ys H) :
    Zhu 1 caps (Zdz 0) te σ (Itr lo n) H QL:=by
  have hz':n<sizeLine:=ZdS hz;refine ⟨λi m ys H=>m=n-i/\i<=n/\ys.length=i/\Pv i ys H,⟨_,rfl,Qf _,rfl,h0⟩,?_⟩;rintro i m ys H' ⟨rfl,hi,hy,p⟩;refine ⟨⋯,?_⟩
  by_cases hlt:i<n
  · refine .inr ⟨hlt,⋯,λv H4=>Pv (i+1) (ys++[v]) H4,λv H4 p'=>⟨n-(i+1),⋯,rfl,hlt,by rw[Qg,hy]; rfl,p'⟩,λx H2 y=>?_⟩
    obtain ⟨e,y⟩:=y;subst e y;exact ⟨ZpC,hs i ys _ hlt hy p⟩
  · have e:i=n:=⋯
    subst e;exact .inl ⟨Q3 _,hd ys H' hy p⟩
end
structure HasM (P:Program) (w:World) (K:ZZfg) (mg:ZZmg) (base:Heap) (C:Addr) (m:Str) (k:Nat) (ps:List Str) (dvs:List V) (sp:Sp):Prop where
 ex:∃(f:Addr) (fd:FuncData) (ds:List Value),FnOk P w K mg base CX0 k f fd ps sp/\Meth K C m f/\Binds K fd ps ds/\Vals dvs ds
theorem HasM.mono{P:Program}{w:World}{K:ZZfg}{mg:ZZmg}{base:Heap}{C:Addr}{m:Str}{j k:Nat}{ps:List Str}{dvs:List V}{sp:Sp}(h:HasM P w K mg base C m j ps dvs sp)(e:j<=k):HasM P w K mg base C m k ps dvs sp :=
 let ⟨f,fd,ds,a,b,c,d⟩:=h.ex
 ⟨f,fd,ds,a.mono e,b,c,d⟩
inductive ZkG (P:Program) (w:World) (K:ZZfg) (mg:ZZmg) (base:Heap) (m:Str) (k:Nat) (x:V) (H1:Hp) (R:List V->Sp->Prop):Prop
 |mk (a C:Addr) (dx:_) (fs:_) (ps:List Str) (dvs:List V) (sp:Sp) (_:x = .ref a) (_:H1 a=some (.ins C dx fs)) (_:Cls K C) (_:HasM P w K mg base C m k ps dvs sp) (_:fs.lookup m=none) (_:R dvs sp):ZkG P w K mg base m k x H1 R
def Znv(P:Program)(w:World)(K:ZZfg)(mg:ZZmg)(base:Heap)(m:Str)(k:Nat)(ta:TE)(t:TA):TE:=λσ H Q=>ta σ H λx H1=>ZkG P w K mg base m k x H1 λdvs sp=>t σ H1 λvs H2=>sp (x::(vs++dvs)) H2 Q E0
section
variable{X:Cx}{k:Nat}{m x:Str}{p pos apos:Pos}{e o:Expr}{es:List Expr}{ta:TE}{t:TA}
theorem Zaz{pl:Sem Bool}(he:PE X o ta)(hr:Room k X.A)(ha:PA X (e::es) t)
    (hst:starEach (e::es) X.env=(false,eval e X.env)::starEach es X.env:=by rfl) (hpl:(backTo pos (starEach es X.env)).any (·.1)=false:=by rfl)
    (ht:eval (.Call (.Attribute o m apos) (e::es) [] pos) X.env=(do
      let ov ← eval o X.env
      standAt apos.atName
      let (f,first) ← holding [ov] (getMethod ov m pl)
      callWith pos f first (backTo pos (starEach (e::es) X.env)) (backToKw pos (keywordEach [] X.env))):=by rfl) :
    PE X (.Call (.Attribute o m apos) (e::es) [] pos) (Znv X.prog X.w X.K X.mg X.base m k ta t):=by
  intro pins s σ H Q I h;refine PySem.W.methodCall_KW (pl:=pl) (thn (he pins s σ H _ I h) λu s1 ⟨x,H1,I1,rx,a,C,dx,fs,ps,dvs,sp,ex,ea,c,hM,l,q⟩=>?_) ht;subst ex;obtain rfl:u=Value.ref a:=rx;obtain ⟨f,fd,ds,F,hm,hb,hd⟩:=hM.ex;refine Zga I1 ea c hm l ?_;refine PySem.W.callWith_K (first:=[.ref a]) (h₀:=X.base) I.ok.mod.kin hm.kp (thn (ha pos pins s1 σ H1 _ I1 q) λus s2 ⟨vs,H2,I2,r,q2⟩=>⟨I2.kIn,?_⟩) hst hpl;exact Znu (us:=.ref a::us) (vs:=.ref a::vs) F hr hb hd Zoi I2 (.cons rfl r) q2
structure HasI (P:Program) (w:World) (K:ZZfg) (mg:ZZmg) (base:Heap) (C:Addr) (k:Nat) (ps:List Str) (sp:Sp):Prop where
 ex:∃(f:Addr) (fd:FuncData),Mk K C f/\FnOk P w K mg base CX0 k f fd ps sp/\Binds K fd ps []
theorem ZeX{C:Addr}{ps:List Str}{sp:Sp}(h:HasI X.prog X.w X.K X.mg X.base C k ps sp)(hr:Room (k+1) X.A)(hg:Gl X x)(hm:X.mg x=some (.ref C))(ha:PA X (e::es) t)(hdb:(x==("__debug__" : Str))=false:=by decide)
    (he:starEach (e::es) X.env=(false,eval e X.env)::starEach es X.env:=by rfl) (hpl:(backTo pos (starEach es X.env)).any (·.1)=false:=by rfl):PE X (.Call (.Name x p) (e::es) [] pos) (Zpy C sp [] E0 t):=by
  obtain ⟨f,fd,M,F,b⟩:=h.ex;exact Zod M F hr hg hm b .nil Zoi ha hdb he hpl
structure HereM (K:ZZfg) (C:Addr) (m qual:Str) (st:Stmt):Prop where
 ex:∃(f:Addr) (fd:FuncData),Fun K m qual st f fd/\Meth K C m f
theorem HereM.hasM{P:Program}{w:World}{K:ZZfg}{mg:ZZmg}{base:Heap}{C:Addr}{m qual:Str}{st:Stmt}{k:Nat}{ps:List Str}{sp:Sp}(h:HereM K C m qual st)
    (b:∀f fd,Fun K m qual st f fd->Binds K fd ps []) (ok:∀f fd,Fun K m qual st f fd->FnOk P w K mg base CX0 k f fd ps sp):HasM P w K mg base C m k ps [] sp :=
  let ⟨f,fd,F,M⟩:=h.ex
  ⟨f,fd,[],ok f fd F,M,b f fd F,.nil⟩
theorem hereM_mk{K:ZZfg}{C:Addr}{m qual:Str}{st:Stmt}{f:Addr}{oc:Value}{od an:Option Addr}{osl:Array (Option Value)}{kV doc pm cdv ct:Value}(a:PySem.W.findIn K (.ref C) m=some (some (.ref f)))(i:PySem.W.isFn K (.ref f)=true)
    (l:K.lookup f=some ⟨oc,od,.func (PySem.W.fnOf m qual (Zbs st) (Za7 st) (Zah st) .none kV doc pm an cdv ct),osl⟩)
    (c:PySem.W.codeIn K cdv qual=true) (k:PySem.W.keepIn K (.ref f)=true):HereM K C m qual st:=⟨f,_,ZkE l c k,a,i,k⟩
structure HereI (K:ZZfg) (C:Addr) (qual:Str) (st:Stmt):Prop where
 ex:∃(f:Addr) (fd:FuncData),Fun K "__init__" qual st f fd/\Mk K C f
theorem HereI.hasI{P:Program}{w:World}{K:ZZfg}{mg:ZZmg}{base:Heap}{C:Addr}{qual:Str}{st:Stmt}{k:Nat}{ps:List Str}{sp:Sp}(h:HereI K C qual st)
    (b:∀f fd,Fun K "__init__" qual st f fd->Binds K fd ps []) (ok:∀f fd,Fun K "__init__" qual st f fd->FnOk P w K mg base CX0 k f fd ps sp):HasI P w K mg base C k ps sp :=
  let ⟨f,fd,F,M⟩:=h.ex
  ⟨f,fd,M,ok f fd F,b f fd F⟩
theorem hereI_mk{K:ZZfg}{C:Addr}{qual:Str}{st:Stmt}{f:Addr}{oc:Value}{od an:Option Addr}{osl:Array (Option Value)}{kV doc pm cdv ct:Value}(mk:PySem.W.makesIn K C=true)(a:PySem.W.findIn K (.ref C) "__init__" = some (some (.ref f))) (i:PySem.W.isFn K (.ref f)=true)
    (kc:PySem.W.keepIn K (.ref C)=true) (l:K.lookup f=some ⟨oc,od,.func (PySem.W.fnOf "__init__" qual (Zbs st) (Za7 st) (Zah st) .none kV doc pm an cdv ct),osl⟩)
    (c:PySem.W.codeIn K cdv qual=true) (k:PySem.W.keepIn K (.ref f)=true):HereI K C qual st:=⟨f,_,ZkE l c k,mk,a,i,kc⟩
structure Mk0 (K:ZZfg) (C:Addr):Prop where
 makes:PySem.W.makesIn K C=true
 init:PySem.W.findIn K (.ref C) "__init__"=some (some (.builtin "object.__init__"))
 kp:PySem.W.keepIn K (.ref C)=true
def Zoo(C:Addr):TE:=λ_ H Q=>∀x dx,H x=none->H dx=none->dx≠x->Q (.ref x) (upd (upd H dx (.own x)) x (.ins C dx []))
theorem ZjM{C:Addr}{pins:List (Addr×Obj)}{σ:St}{H:Hp}{s:Shared}{Q:VK}(M:Mk0 X.K C)(I:Inv X pins σ H s)
    (h:∀x dx,H x=none->H dx=none->dx≠x->Q (.ref x) (upd (upd H dx (.own x)) x (.ins C dx []))):wpAny (model X.prog X.w) X.A (call (.ref C) []) (EP X pins σ Q) X.xe s:=by
  have hq:=h (s.heap.objs.size+1) s.heap.objs.size (I.hok.fresh (Nat.le_succ _)) (I.hok.fresh (Q3 _)) (Qi (Nat.lt_succ_self _));have I2:=Inv.made (C:=C) I;refine wpAny_call (Zku I.kIn M.makes M.init (λself=>PySem.W.Looks.of_pure (PySem.W.oi_bind self)) ?_);have Y:=PySem.W.makes_of (M:=model X.prog X.w) I.kIn M.makes;obtain ⟨hh,g,d,t,os⟩:=s;have t1:PySem.W.Looks (model X.prog X.w) ((hh.push PySem.W.emptyDict).push (PySem.W.instObj C hh.objs.size)) (typeOf (.ref (hh.objs.size+1))) (.ref C) :=
    (PySem.W.Looks.ld (o:=PySem.W.instObj C hh.objs.size) (by have:=Heap.get?_push_size (hh.push PySem.W.emptyDict) (o:=PySem.W.instObj C hh.objs.size) rfl; rwa [Heap.size_push] at this)).andThen .now
  have t2:PySem.W.Looks (model X.prog X.w) ((hh.push PySem.W.emptyDict).push (PySem.W.instObj C hh.objs.size)) (isInstance (.ref (hh.objs.size+1)) (.type "object")) true:=t1.andThen (Y.top.keeps λb o e=>Heap.get?_push_of_some _ (Heap.get?_push_of_some _ e));refine codeAny_call_builtin PySem.W.oi_plain PySem.W.entry_oi (@PySem.W.check_slot (model X.prog X.w) _ _ _ "object.__init__" "object" "__init__" (.ref (hh.objs.size+1)) [] [] _ PySem.W.oi_kind PySem.W.oi_split t2 (PySem.W.oi_args (.ref (hh.objs.size+1))) ?_);rw[PySem.W.oi_run];refine wpAny_pure (And.intro rfl ?_);exact ⟨V.ref (hh.objs.size+1),_,I2,rfl,hq⟩
theorem ZkH{C:Addr}(M:Mk0 X.K C)(hg:Gl X x)(hm:X.mg x=some (.ref C))(hdb:(x==("__debug__":Str))=false:=by decide):PE X (.Call (.Name x p) [] [] pos) (Zoo C):=by
 intro pins s σ H Q I h;refine wpAny_Call_Name_kw (Zdy I hg hm ?_ hdb);exact PySem.W.callWith_K0 I.kIn M.kp (ZjM M I h)
end
end L2
namespace M1
theorem fmod_gcd(a b:Int):Int.gcd b (a.fmod b)=Int.gcd a b:=by
 have h:a.fmod b=a-b*a.fdiv b:=Int.fmod_def a b;rw[h,Int.gcd_comm a b];have:a-b*a.fdiv b=a+b*(-(a.fdiv b)):=by rw[U0];omega
 rw[this]
 simp
theorem ZpD(i:Int):(if i<0 then -i else i)=(i.natAbs:Int):=by split <;> omega
theorem gcd_zero'(a:Int):(Int.gcd a 0:Int)=(if a<0 then -a else a):=by
 rw[ZpD,Int.gcd_zero_right]
theorem Zfd(a:Int){b:Int}(h:b<0):a.fmod b<=0/\b<a.fmod b:=by
 have e:=Int.neg_fmod_neg a b;have h1:=Int.fmod_nonneg_of_pos (-a) (b:=-b) ⋯;have h2:=Int.fmod_lt_of_pos (-a) (b:=-b) ⋯;omega
theorem fmod_lt(a:Int){b:Int}(h:b≠0):(a.fmod b).natAbs<b.natAbs:=by
 rcases Int.lt_or_gt_of_ne h with h|h
 ·have h1:=Zfd a h;omega
 ·have h1:=Int.fmod_nonneg_of_pos a h;have h2:=Int.fmod_lt_of_pos a h;omega
theorem Zhx(a:Int){b:Int}(h:b≠0):(0<=b/\0<=a.fmod b)\/(b<=0/\a.fmod b<=0):=by
 rcases Int.lt_or_gt_of_ne h with h|h
 ·exact .inr ⟨⋯,(Zfd a h).1⟩
 ·exact .inl ⟨⋯,Int.fmod_nonneg_of_pos a h⟩
structure Sh (x y a u1 v1 b u2 v2:Int):Prop where
 ea:a=u1*x+v1*y
 eb:b=u2*x+v2*y
 g:Int.gcd a b=Int.gcd x y
 st:(a=x/\u1=1/\v1=0/\b=y/\u2=0/\v2=1) ∨
  (a≠0/\((0<=a/\0<=b)\/(a<=0/\b<=0))/\a.natAbs<=y.natAbs/\b.natAbs<=y.natAbs/\u1.natAbs<=y.natAbs/\v1.natAbs<=x.natAbs+2*y.natAbs ∧
   u2.natAbs*a.natAbs+u1.natAbs*b.natAbs<=y.natAbs/\v2.natAbs*a.natAbs+v1.natAbs*b.natAbs<=x.natAbs+2*y.natAbs)
theorem Sh.start(x y:Int):Sh x y x 1 0 y 0 1:=⟨⋯,⋯,rfl,.inl ⟨rfl,rfl,rfl,rfl,rfl,rfl⟩⟩
theorem Zdj{a b c:Nat}(h:a*b<=c)(hb:b≠0):a<=c:=Q0 (Ub a (Ut hb)) h
theorem ZqY{X Y:Nat}:X<=X+2*Y+1:=⋯
theorem ZkI{X Y:Nat}:Y<=X+2*Y+1:=⋯
theorem ZpE{X Y:Nat}:1<=X+2*Y+1:=⋯
theorem ZqZ{X Y:Nat}(h:1<=Y):1<=X+2*Y:=⋯
theorem Sh.bound{x y a u1 v1 b u2 v2:Int}(h:Sh x y a u1 v1 b u2 v2) :
    a.natAbs<=x.natAbs+2*y.natAbs+1/\u1.natAbs<=x.natAbs+2*y.natAbs+1/\v1.natAbs<=x.natAbs+2*y.natAbs+1 ∧
    b.natAbs<=x.natAbs+2*y.natAbs+1/\u2.natAbs<=x.natAbs+2*y.natAbs+1/\v2.natAbs<=x.natAbs+2*y.natAbs+1:=by
  rcases h.st with ⟨rfl,rfl,rfl,rfl,rfl,rfl⟩ | ⟨ha,_,h1,h2,h3,h4,h5,h6⟩
  · exact ⟨ZqY,ZpE,Qf _,ZkI,Qf _,ZpE⟩
  · have ha':a.natAbs≠0:=Int.natAbs_ne_zero.mpr ha
    have k1:u2.natAbs<=y.natAbs:=Zdj (b:=a.natAbs) (Q0 (Nat.le_add_right _ _) h5) ha';have k2:v2.natAbs<=x.natAbs+2*y.natAbs:=Zdj (b:=a.natAbs) (Q0 (Nat.le_add_right _ _) h6) ha';exact ⟨Q0 h1 ZkI,Q0 h3 ZkI,Nat.le_succ_of_le h4,Q0 h2 ZkI,Q0 k1 ZkI,Nat.le_succ_of_le k2⟩
theorem rest_eq(a b:Int):a-a.fdiv b*b=a.fmod b:=by rw[Int.fmod_def,Qv]
theorem fdiv_small(a:Int){b:Int}(hb:b≠0):(a.fdiv b).natAbs<=a.natAbs+1:=by
 have e:=Int.mul_fdiv_add_fmod a b;have l:=fmod_lt a hb;have k:(b*a.fdiv b).natAbs=b.natAbs*(a.fdiv b).natAbs:=Qr ..;have z:b*a.fdiv b=a-a.fmod b:=⋯;have n1:b.natAbs*(a.fdiv b).natAbs<=a.natAbs+(b.natAbs-1):=by
  rw[<-k,z];have:=Int.natAbs_sub_le a (a.fmod b);omega
 generalize (a.fdiv b).natAbs=q at *;generalize b.natAbs=c at *;have hc:1<=c:=⋯;rcases Nat.lt_or_ge (a.natAbs+1) q with h|h
 ·have:c*(a.natAbs+2)<=c*q:=Qk c h;have e2:c*(a.natAbs+2)=c*a.natAbs+c*2:=Nat.mul_add ..;have e3:a.natAbs<=c*a.natAbs:=Ws _ hc;omega
 ·exact h
theorem Zop{a b:Int}(h:(0<=a/\0<=b)\/(a<=0/\b<=0)):0<=a.fdiv b:=by
 rcases h with ⟨h1,h2⟩|⟨h1,h2⟩
 ·exact Int.fdiv_nonneg h1 h2
 ·rw[<-Int.neg_fdiv_neg];exact Int.fdiv_nonneg ⋯ ⋯
theorem ZkJ{a b:Int}(hb:b≠0)(h:(0<=a/\0<=b)\/(a<=0/\b<=0)):(a.fdiv b).natAbs*b.natAbs+(a.fmod b).natAbs=a.natAbs:=by
 have e:=Int.mul_fdiv_add_fmod a b;have q:=Zop h;have s:=Zhx a hb;rw[<-Qr,Qv];have pq:(0<=b/\0<=b*a.fdiv b)\/(b<=0/\b*a.fdiv b<=0):=by
  rcases h with ⟨h1,h2⟩|⟨h1,h2⟩
  ·exact .inl ⟨h2,Uu h2 q⟩
  ·refine .inr ⟨h2,?_⟩;have:=Uu (show 0 <= -b by omega) q;rw[Int.neg_mul] at this;omega
 rcases pq with ⟨b1,p1⟩|⟨b1,p1⟩
 ·rcases s with ⟨_,s1⟩|⟨b2,_⟩
  ·rw[<-Int.natAbs_add_of_nonneg p1 s1,e]
  ·exact absurd (Int.le_antisymm b2 b1) hb
 ·rcases s with ⟨b2,_⟩|⟨_,s1⟩
  ·exact absurd (Int.le_antisymm b1 b2) hb
  ·rw[<-Int.natAbs_add_of_nonpos p1 s1,e]
theorem Zgd(u q v:Int):(u-q*v).natAbs<=u.natAbs+q.natAbs*v.natAbs:=by
 have:=Int.natAbs_sub_le u (q*v);rw[Qr] at this;exact this
theorem Zi9{u1 u2 q a b r u C:Nat}(hu:u<=u1+q*u2)(ha:q*b+r=a)(h:u2*a+u1*b<=C):u*b+u2*r<=C:=by
 have h1:u*b<=(u1+q*u2)*b:=Qp b hu;have h2:(u1+q*u2)*b=u1*b+u2*(q*b):=by
  rw[Nat.add_mul,Wi q u2,Qz]
 have h3:u2*a=u2*(q*b)+u2*r:=by rw[<-ha,Nat.mul_add]
 omega
theorem Zmm{x y a b q u1 v1 u2 v2:Int}(ea:a=u1*x+v1*y)(eb:b=u2*x+v2*y):a-q*b=(u1-q*u2)*x+(v1-q*v2)*y:=by
 rw[ea,eb,Int.sub_mul,Int.sub_mul,Int.mul_add,W0,W0];omega
theorem ZpF{M A R B:Nat}(h:M<=A+R)(l:R<B):M+R<=A+2*B:=⋯
theorem Sh.turn{x y a u1 v1 b u2 v2:Int}(h:Sh x y a u1 v1 b u2 v2)(hb:b≠0) :
    Sh x y b u2 v2 (a-a.fdiv b*b) (u1-a.fdiv b*u2) (v1-a.fdiv b*v2):=by
  have er:=rest_eq a b;refine ⟨h.eb,Zmm h.ea h.eb,?_,.inr ?_⟩
  · rw[er,fmod_gcd]; exact h.g
  · have lt:=fmod_lt a hb
    have sg:=Zhx a hb;rw[er];refine ⟨hb,sg,?_⟩;rcases h.st with ⟨rfl,rfl,rfl,rfl,rfl,rfl⟩ | ⟨ha,hs,h1,h2,h3,h4,h5,h6⟩
    · have e0:(1:Int)-a.fdiv b*0=1:=⋯
      have e1:(0:Int)-a.fdiv b*1 = -(a.fdiv b):=⋯;rw[e0,e1,Int.natAbs_neg];refine ⟨Q3 _,Uh lt,Qf _,ZqZ (Ut (Int.natAbs_ne_zero.mpr hb)),?_,?_⟩
      · show 1*b.natAbs+0*(a.fmod b).natAbs<=b.natAbs
        rw[Wv,Nat.zero_mul];exact Q3 _
      · show (a.fdiv b).natAbs*b.natAbs+1*(a.fmod b).natAbs<=a.natAbs+2*b.natAbs
        have e:=Int.mul_fdiv_add_fmod a b;have k:(b*a.fdiv b).natAbs=b.natAbs*(a.fdiv b).natAbs:=Qr ..;have z:b*a.fdiv b=a-a.fmod b:=⋯;rw[Wi,<-k,z,Wv];exact ZpF (Int.natAbs_sub_le a (a.fmod b)) lt
    · have sp:=ZkJ hb hs
      have ha':a.natAbs≠0:=Int.natAbs_ne_zero.mpr ha;have k1:u2.natAbs<=y.natAbs:=Zdj (b:=a.natAbs) (Q0 (Nat.le_add_right _ _) h5) ha';have k2:v2.natAbs<=x.natAbs+2*y.natAbs:=Zdj (b:=a.natAbs) (Q0 (Nat.le_add_right _ _) h6) ha';exact ⟨h2,Q0 (Uh lt) h2,k1,k2,Zi9 (Zgd ..) sp h5,Zi9 (Zgd ..) sp h6⟩
theorem Sh.done{x y a u1 v1 u2 v2:Int}(h:Sh x y a u1 v1 0 u2 v2):(a.natAbs:Int)=Int.gcd x y/\a=x*u1+y*v1:=by
 have g:=h.g;rw[Int.gcd_zero_right] at g;refine ⟨by rw[g],?_⟩;rw[Qv x,Qv y];exact h.ea
end M1
namespace M2
def Prm(n:Int):Prop:=2<=n/\∀d:Int,2<=d->d*d<=n->¬d ∣ n
theorem sq_mono{a b:Int}(ha:0<=a)(h:a<=b):a*a<=b*b:=Int.mul_le_mul h h ha ⋯
theorem Zoq:Prm 2:=⟨⋯,λd h1 h2=>by have:=sq_mono (a:=2) ⋯ h1;omega⟩
theorem Zmn{n:Int}(h:2<=n)(h2:n≠2)(e:n%2=0):¬Prm n:=λp=>p.2 2 ⋯ ⋯ (Int.dvd_of_emod_eq_zero e)
theorem prm_even{n:Int}(h:2<=n)(e:n%2=0):Prm n↔n=2:=by
 constructor
 ·intro p;refine Decidable.byContradiction λz=>Zmn h z e p
 ·rintro rfl;exact Zoq
def No(n t:Int):Prop:=∀d:Int,2<=d->d<t->¬d ∣ n
theorem No.odd{n:Int}(e:¬n%2=0):No n 3:=λd h1 h2 hd=>by
 have:d=2:=⋯;subst this;exact e (Uc hd)
theorem No.two{n:Int}:No n 2:=λd h1 h2=>⋯
theorem No.one{n t:Int}(h:No n t)(hn:¬t ∣ n):No n (t+1):=λd h1 h2=>by
 rcases (by omega:d<t\/d=t) with z|z
 ·exact h d h1 z
 ·rw[z];exact hn
theorem No.next{n t:Int}(h:No n t)(e:¬n%2=0)(ho:t%2=1)(hn:¬t ∣ n):No n (t+2):=λd h1 h2 hd=>by
 rcases (by omega:d<t\/d=t\/d=t+1) with z|z|z
 ·exact h d h1 z hd
 ·rw[z] at hd;exact hn hd
 ·have h2d:(2:Int) ∣ d:=Int.dvd_of_emod_eq_zero ⋯;exact e (Uc (Int.dvd_trans h2d hd))
theorem No.done{n t:Int}(h:No n t)(h2:2<=n)(ht:0<=t)(hl:¬t*t<=n):Prm n:=⟨h2,λd h1 hd=>h d h1 (by
 refine Uv λz=>hl ?_;exact Int.le_trans (sq_mono ht z) hd)⟩
theorem found{n t:Int}(ht:2<=t)(hl:t*t<=n)(hd:t ∣ n):¬Prm n:=λp=>p.2 t ht hl hd
theorem le_of_sq{n t:Int}(ht:2<=t)(hl:t*t<=n):t+t<=n:=by
 have:t*2<=t*t:=Int.mul_le_mul_of_nonneg_left ht ⋯;omega
theorem fmod_dvd{n t:Int}(ht:0<t):n.fmod t=0↔t ∣ n:=by
 rw[Wm n ⋯];exact ⟨Int.dvd_of_emod_eq_zero,Uc⟩
theorem ZkK:∀d:Nat,d<1000->2<=d->999983%d≠0:=by decide +kernel
theorem prm_big:Prm 999983:=by
 refine ⟨⋯,λd h1 h2 hd=>?_⟩;have hl:d<1000:=by
  refine Uv λz=>?_;have:=sq_mono (a:=1000) ⋯ z;omega
 have e:=Uc hd;refine ZkK d.toNat ⋯ ⋯ ?_;have ed:d=(d.toNat:Int):=⋯;rw[ed] at e;have e2:((999983%d.toNat:Nat):Int)=0:=by rw[Ww];exact e
 exact Int.natCast_eq_zero.mp e2
theorem Zor{p d:Int}(h:Prm p)(h1:1<d)(hd:d ∣ p):d=p:=by
 obtain ⟨k,hk⟩:=hd;have hp:=h.1;refine Decidable.byContradiction λz=>?_;have kpos:0<k:=by
  refine Uv λq=>?_;have:=Uu (show 0<=d by omega) (show 0 <= -k by omega);rw[U0] at this;omega
 have k1:k≠1:=λq=>z (by rw[hk,q,Uq]);rcases (by omega:d<=k\/k<=d) with q|q
 ·exact h.2 d ⋯ (by rw[hk];exact Int.mul_le_mul_of_nonneg_left q ⋯) ⟨k,hk⟩
 ·exact h.2 k ⋯ (by rw[hk];exact Int.mul_le_mul_of_nonneg_right q ⋯) ⟨d,by rw[hk,Qv]⟩
theorem prm_gcd{p b:Int}(h:Prm p)(hb:¬p ∣ b):Int.gcd b p=1:=by
 have h1:=Wb b p;have h2:=U1 b p;have hp:=h.1;have hne:Int.gcd b p≠0:=λz=>by
  rw[z] at h1;have:=Int.zero_dvd.mp h1;omega
 refine Decidable.byContradiction λz=>hb ?_;have e:=Zor h (show (1:Int)<(Int.gcd b p:Int) by omega) h1;rw[e] at h2;exact h2
end M2
namespace M3
theorem Zb9{a b c:Int}(h1:Int.gcd a c=1)(h2:Int.gcd b c=1):Int.gcd (a*b) c=1:=by
 rw[Int.gcd_eq_natAbs_gcd_natAbs] at *;rw[Qr];exact Nat.Coprime.mul_left h1 h2
theorem Zdk{a b:Int}(h:Int.gcd a b=1):Int.gcd b a=1:=by rw[Int.gcd_comm];exact h
theorem ZbW{a b c:Int}(h1:Int.gcd c a=1)(h2:Int.gcd c b=1):Int.gcd c (a*b)=1:=Zdk (Zb9 (Zdk h1) (Zdk h2))
theorem Zmo{a b c:Int}(h:Int.gcd (a*b) c=1):Int.gcd a c=1:=by
 rw[Int.gcd_eq_natAbs_gcd_natAbs] at *;rw[Qr] at h;exact Nat.Coprime.coprime_dvd_left ⟨b.natAbs,rfl⟩ h
theorem ZcY{a b c:Int}(h:Int.gcd (a*b) c=1):Int.gcd b c=1:=Zmo (b:=a) (by rw[Qv];exact h)
theorem Zdl{a b c:Int}(h:Int.gcd c (a*b)=1):Int.gcd c b=1:=Zdk (ZcY (Zdk h))
theorem Zhy{a b:Int}(hb:Int.gcd a b≠0):∃x y:Int,a=(Int.gcd a b:Int)*x/\b=(Int.gcd a b:Int)*y/\Int.gcd x y=1:=by
 obtain ⟨x,hx⟩:=U1 a b;obtain ⟨y,hy⟩:=Wb a b;refine ⟨x,y,hx,hy,?_⟩;have e:Int.gcd ((Int.gcd a b:Int)*x) ((Int.gcd a b:Int)*y)=Int.gcd a b*Int.gcd x y:=by
  rw[Int.gcd_mul_left]
  simp
 rw[<-hx,<-hy] at e;have e2:Int.gcd a b*Int.gcd x y=Int.gcd a b*1:=⋯;exact Nat.eq_of_mul_eq_mul_left (Ut hb) e2
theorem gcd_ne{a b:Int}(h:b≠0):Int.gcd a b≠0:=λz=>h (Int.gcd_eq_zero_iff.mp z).2
theorem Zbu{g x:Int}(hg:g≠0):(g*x).fdiv g=x:=Int.mul_fdiv_cancel_left x hg
theorem Zfe{g x:Int}(hg:0<g)(h:0<g*x):0<x:=by
 refine Uv λz=>?_;have:=Uu (Int.le_of_lt hg) (show 0 <= -x by omega);rw[U0] at this;omega
theorem low{t b:Int}(hb:0<b):Int.gcd (t.fdiv (Int.gcd t b)) (b.fdiv (Int.gcd t b))=1/\0<b.fdiv (Int.gcd t b)/\t.fdiv (Int.gcd t b)*b=t*b.fdiv (Int.gcd t b) ∧
    (t.fdiv (Int.gcd t b)).natAbs<=t.natAbs/\(b.fdiv (Int.gcd t b)).natAbs<=b.natAbs:=by
  have hg:=gcd_ne (a:=t) (b:=b) ⋯;obtain ⟨x,y,hx,hy,c⟩:=Zhy hg;generalize Int.gcd t b=g at *;have hg':(g:Int)≠0:=⋯;subst hx hy;rw[Zbu hg',Zbu hg'];have yp:=Zfe (show (0:Int)<g by omega) hb;refine ⟨c,yp,by ac_rfl,?_,?_⟩
  · rw[Qr]; exact Ws _ ⋯
  · rw[Qr]; exact Ws _ ⋯
theorem ZjN(g x:Int)(hg:g≠0):x.natAbs<=(g*x).natAbs:=by
 rw[Qr];exact Ws _ ⋯
theorem plus_ok{a1 b1 a2 b2:Int}(h1:0<b1)(h2:0<b2)(c1:Int.gcd a1 b1=1)(c2:Int.gcd a2 b2=1){top:Int}
    (ht:top=a1*b2.fdiv (Int.gcd b1 b2)+a2*b1.fdiv (Int.gcd b1 b2)) :
    Int.gcd top (Int.gcd b1 b2)≠0/\0<b1.fdiv (Int.gcd b1 b2)*b2.fdiv (Int.gcd top (Int.gcd b1 b2)) ∧
    Int.gcd (top.fdiv (Int.gcd top (Int.gcd b1 b2))) (b1.fdiv (Int.gcd b1 b2)*b2.fdiv (Int.gcd top (Int.gcd b1 b2)))=1 ∧
    top.fdiv (Int.gcd top (Int.gcd b1 b2))*(b1*b2)=(a1*b2+a2*b1)*(b1.fdiv (Int.gcd b1 b2)*b2.fdiv (Int.gcd top (Int.gcd b1 b2))):=by
  have hg:=gcd_ne (a:=b1) (b:=b2) ⋯;obtain ⟨p,q,hp,hq,cpq⟩:=Zhy hg;generalize hG:Int.gcd b1 b2=g at *;have hg':(g:Int)≠0:=⋯;have e1:b1.fdiv g=p:=by rw[hp]; exact Zbu hg'
  have e2:b2.fdiv g=q:=by rw[hq]; exact Zbu hg'
  rw[e1,e2] at ht;rw[e1];have hl:=gcd_ne (a:=top) (b:=(g:Int)) hg';obtain ⟨t,r,ht2,hr,ctr⟩:=Zhy hl;generalize hL:Int.gcd top g=l at *;have hl':(l:Int)≠0:=⋯;have e3:top.fdiv l=t:=by rw[ht2]; exact Zbu hl'
  have e4:b2=l*(r*q):=by rw[hq,hr]; ac_rfl
  have e5:b2.fdiv l=r*q:=by rw[e4]; exact Zbu hl'
  rw[e3,e5];have pp:0<p:=Zfe (show (0:Int)<g by omega) (by rw[<-hp]; exact h1);have rq:0<r*q:=Zfe (show (0:Int)<l by omega) (by rw[<-e4]; exact h2);have tp:Int.gcd top p=1:=by
    rw[ht,Int.gcd_add_mul_right_left];exact Zb9 (Zdl (a:=g) (by rw[<-hp]; exact c1)) (Zdk cpq)
  have tq:Int.gcd top q=1:=by
    rw[ht,Int.add_comm,Int.gcd_add_mul_right_left];exact Zb9 (Zdl (a:=g) (by rw[<-hq]; exact c2)) cpq
  rw[ht2] at tp tq;refine ⟨hl,W8 pp rq,ZbW (ZcY tp) (ZbW ctr (ZcY tq)),?_⟩;have k1:a1*b2+a2*b1=g*(l*t):=by
    rw[<-ht2,ht,Int.mul_add,hp,hq]
    congr 1 <;> ac_rfl
  rw[k1,hp,hq];have k2:(g:Int)*(l*t)*(p*(r*q))=g*t*p*q*(l*r):=by ac_rfl
  rw[k2,<-hr]
  ac_rfl
theorem times_ok{a1 b1 a2 b2:Int}(h1:0<b1)(h2:0<b2)(c1:Int.gcd a1 b1=1)(c2:Int.gcd a2 b2=1) :
    0<b1.fdiv (Int.gcd a2 b1)*b2.fdiv (Int.gcd a1 b2) ∧
    Int.gcd (a1.fdiv (Int.gcd a1 b2)*a2.fdiv (Int.gcd a2 b1)) (b1.fdiv (Int.gcd a2 b1)*b2.fdiv (Int.gcd a1 b2))=1 ∧
    a1.fdiv (Int.gcd a1 b2)*a2.fdiv (Int.gcd a2 b1)*(b1*b2)=a1*a2*(b1.fdiv (Int.gcd a2 b1)*b2.fdiv (Int.gcd a1 b2)):=by
  have hf:=gcd_ne (a:=a1) (b:=b2) ⋯;have hr:=gcd_ne (a:=a2) (b:=b1) ⋯;obtain ⟨x,y,hx,hy,cxy⟩:=Zhy hf;obtain ⟨z,w,hz,hw,czw⟩:=Zhy hr;generalize Int.gcd a1 b2=f at *;generalize Int.gcd a2 b1=r at *;have hf':(f:Int)≠0:=⋯;have hr':(r:Int)≠0:=⋯;have e1:a1.fdiv f=x:=by rw[hx]; exact Zbu hf'
  have e2:b2.fdiv f=y:=by rw[hy]; exact Zbu hf'
  have e3:a2.fdiv r=z:=by rw[hz]; exact Zbu hr'
  have e4:b1.fdiv r=w:=by rw[hw]; exact Zbu hr'
  rw[e1,e2,e3,e4];have yp:=Zfe (show (0:Int)<f by omega) (by rw[<-hy]; exact h2);have wp:=Zfe (show (0:Int)<r by omega) (by rw[<-hw]; exact h1);rw[hx,hw] at c1;rw[hz,hy] at c2;refine ⟨W8 wp yp,Zb9 (ZbW (Zdl (ZcY c1)) cxy) (ZbW czw (Zdl (ZcY c2))),?_⟩;rw[hx,hy,hz,hw]
  ac_rfl
theorem fdiv_le{a:Int}{g:Int}(h:g ∣ a)(hg:g≠0):(a.fdiv g).natAbs<=a.natAbs:=by
 obtain ⟨x,rfl⟩:=h;rw[Zbu hg];exact ZjN g x hg
end M3
namespace L2
open PySem PySem.Spec PyProof.Rows
structure XCls (K:ZZfg) (C:Addr):Prop where
 ga:PySem.W.findIn K (.ref C) "__getattribute__"=some (some (.builtin "BaseException.__getattribute__"))
 ha:PySem.W.findIn K (.ref C) "__getattr__"=some none
 cl:PySem.W.findIn K (.ref C) "__class__"=some (some (.builtin "object.__class__"))
 hn:PySem.W.specialIn K (.builtin "object.__class__") "__get__"=some (some (.builtin "getset_descriptor.__get__"))
 tk:PySem.W.takesIn K (.builtin "object.__class__")=some true
 ob:PySem.W.mroIn K C (.type "object")=some true
 be:PySem.W.mroIn K C (.type "BaseException")=some true
 hd:PySem.W.hasDictIn K C=true
section
variable{prog:Program}{w:World}{A:Around}{E:Value->Shared->Prop}{s:Shared}{K:ZZfg}{x C:Addr}{ox:Obj}{od:Option Obj}
theorem Zh7{K:ZZfg}{C:Addr}{od:Option Obj}{name:Str}{a g:Value}(hc:(PySem.W.clsIn K C).isSome=true)(ha:PySem.W.findIn K (.ref C) name=some (some a))(hg:PySem.W.specialIn K a "__get__" = some (some g)) (ht:PySem.W.takesIn K a=some true) :
    PySem.W.findObj K C od name=some (.bind g a):=by
  obtain ⟨cd,hc⟩:=Option.isSome_iff_exists.mp hc;unfold PySem.W.findObj;rw[hc,Option.bind_some,ha,Option.bind_some]
  simp[hg,ht]
theorem ZkL(c:XCls K C){tk:Tok}{R:Result->Shared->Prop}(X:K.In s.heap)(I:PySem.W.InstAt s.heap x ox C od)(h:R (.ok (.ret (.ref C))) s) :
    codeAny (model prog w) A (.call (.builtin "BaseException.__getattribute__") ⟨[.ref x,.str "__class__" tk],[]⟩) R s:=by
  have hf:PySem.W.findObj K C od "__class__" = some (.bind (.builtin "getset_descriptor.__get__") (.builtin "object.__class__")):=Zh7 (by obtain ⟨cd,hc,_⟩:=PySem.W.any_some c.hd; rw[hc]; rfl) c.cl c.hn c.tk;obtain ⟨hh,gg,d,t,os⟩:=s;have L0:=I.type (M:=model prog w);have LF:=PySem.W.looks_find (M:=model prog w) X I hf;have LB:PySem.W.Looks (model prog w) hh (isInstance (.ref x) (.type "BaseException")) true:=L0.andThen (PySem.W.looks_mroIn X c.be);have LG:=PySem.W.looks_mroIn (M:=model prog w) X c.be;refine codeAny_call_builtin F.excAttr_ValueError.ga.plain F.entry_bexc_ga ?_;have hk:builtinKind "BaseException.__getattribute__" = some .slot:=by decide +kernel
  have hsplit:splitId "BaseException.__getattribute__" = some ("BaseException", "__getattribute__"):=by decide +kernel
  have ha:=F.args_bexc_ga (.ref x) (.str "__class__" tk)
  simp only[checkBuiltinCall,hk,hsplit]
  refine wpAny_bind (LB.at ?_)
  simp only[Bool.not_true,Bool.false_eq_true,if_false]
  refine wpAny_of_eq ha ?_;refine wpAny_bind (wpAny_pure (wpAny_bind (wpAny_pure (wpAny_bind (L0.at (wpAny_bind (LF.at ?_)))))));show wpAny _ _ (holding [Value.builtin "object.__class__"] (call (.builtin "getset_descriptor.__get__") [.builtin "object.__class__", .ref x,.ref C]) >>= ret) _ _ _;exact wpAny_bind (wpAny_holding (wpAny_call (PySem.W.class_get (s:=⟨hh,gg,d,t,os⟩) X I c.ob (wpAny_pure h))))
theorem ZkM(c:XCls K C){Q:Option Value->Shared->Prop}(X:K.In s.heap)(I:PySem.W.InstAt s.heap x ox C od)(h:Q (some (.ref C)) { s with toks:=s.toks+1 }):wpAny (model prog w) A (getAttr? (.ref x) "__class__") Q E s:=by
 have L0:=I.type (M:=model prog w);have L1:=PySem.W.looks_findIn (M:=model prog w) X c.ga;have L3:=PySem.W.looks_findIn (M:=model prog w) X c.ha;obtain ⟨hh,g,d,t,os⟩:=s;unfold getAttr? getAttrBy? getAttrBy;refine wpAny_bind (wpAny_mkText (wpAny_bind (wpAny_attempt (wpAny_holding (wpAny_bind (L0.at (wpAny_bind (L1.at ?_))))))));show wpAny _ _ (getAttrByItsOwn _ _ _ _ _ _) _ _ _;unfold getAttrByItsOwn;refine wpAny_bind (L3.at ?_);refine wpAny_bind (wpAny_attempt (wpAny_holding ?_));show wpAny _ _ (boundAndCalled _ _ _) _ _ _;unfold boundAndCalled;refine wpAny_bind (wpAny_of_eq (F.excAttr_ValueError.ga.bind (.ref x)) ?_);refine wpAny_call (ZkL (s:=⟨hh,g,d,t+1,os⟩) c X I ?_);exact PySem.W.handed_on rfl (wpAny_pure h)
theorem Zmp(c:XCls K C):PySem.W.KitX K (.ref x) (.ref C) (λh=>∃ox od,PySem.W.InstAt h x ox C od) where
 ty:=λ_ _ _ ⟨_,_,I⟩=>I.type
 it:=λ_ _ X _=>by
  obtain ⟨cdD,hcD,_⟩:=PySem.W.any_some c.hd;unfold PySem.W.clsIn at hcD
  split at hcD
  ·rename_i c' d' cd' sl' ho
   intro A' Q' E' s' k q;unfold isType loadHead;exact wpAny_bind (wpAny_loadPart (k _ _ (X _ _ ho)) (wpAny_pure q))
  ·cases hcD
 ne:=λh tp dd its n sl X htp=>by
  obtain ⟨cdD,hcD,_⟩:=PySem.W.any_some c.hd;refine Bool.eq_false_iff.mpr λq=>?_;have e:C=tp:=Value.ref.inj (beq_iff_eq.mp q);subst e;unfold PySem.W.clsIn at hcD
  split at hcD
  ·rename_i c' d' cd' sl' ho
   exact nomatch (X _ _ ho).symm.trans htp
  ·cases hcD
 ca:=λX ⟨_,_,I⟩ k=>ZkM c X I k
end
def Tr(h B:Heap)(e:Addr)(cls a0:Value)(dd:Option Addr)(fl:Value):Prop :=
 ∃oe vs T oT ts,h.get? e=some oe/\oe.cls=cls/\oe.dict=dd/\oe.data = .fields vs/\vs[0]?=some a0/\vs[1]?=some (.ref T)/\B.get? T=none/\T≠e/\h.get? T=some oT/\oT.data = .fields ts/\ts[3]?=some fl
theorem ZfS(o:Obj)(f):(o.mapFields f).dict=o.dict:=by
 obtain ⟨c,d,dt,sl⟩:=o
 cases dt <;> rfl
theorem ZcA{h:Heap}{a:Addr}{o:Obj}{vs:Array Value}(f:Array Value->Array Value)(ho:h.get? a=some o)(hd:o.data = .fields vs):h.UpToSlots (h.update a (Obj.mapFields f)):=λb u e n =>
 ⟨u.slots,by
  rw[Heap.get?_update_other _ _ λz=>by subst z;rw[ho] at e;cases e;exact n vs hd];exact e⟩
theorem ZdV{h h' B:Heap}{l:List Env}(u:h.UpToSlots h')(f:h.FunFrames B l):h'.FunFrames B l:=f.of_keeps λb o e n=>let ⟨sl,q⟩:=u b o e n;⟨_,q,rfl⟩
section
variable{M:Model}{A:Around}{E:Value->Shared->Prop}{s:Shared}{B:Heap}{env:Env}{outer:List Env}{L e:Addr}{oe:Obj}{vs:Array Value}{cls a0:Value}{dd:Option Addr}{Q:Unit->Shared->Prop}
theorem Zhz{hd0:Value}{hn:Bool}(hfr:A.frames=some (env::outer))(fl:s.heap.FunFrames B (env::outer))(hf:env.frame=some L)(he:s.heap.get? e=some oe)(st:B.StaysIn s.heap)(nb:B.get? e=none)(hd:oe.data = .fields vs)
    (h0:vs[0]?=some a0) (hz:1<vs.size) (k:∀h',B.StaysIn h'->h'.FunFrames B (env::outer)->Tr h' B e oe.cls a0 oe.dict (rawInt L)->s.heap.UpToSlots h'->Q () { s with heap:=h' }) :
    wpAny M A (do let a ← frameOf env; let pl ← entryPlaceOf L hn; let b ← EntryCells.newEntry hd0 a .none (rawInt L) .none pl; setField (.ref e) 1 b) Q E s:=by
  have notf:e∉(env::outer).filterMap (·.frame):=λhm=>by
    obtain ⟨_,o,ho,n⟩:=fl.mem hm;rw[he] at ho; cases ho; exact n vs hd
  refine wpAny_bind (wpAny_frameOf_fun hfr fl hf λh1 so=>wpAny_bind (wpAny_entryPlaceOf λpl hpl=>?_));have u1:s.heap.UpToSlots h1:=λb o q _=>so.2.2 b o q;have st1:B.StaysIn h1:=λb o q=>(so.2.1 b λhm=>by rw[(fl.mem hm).1] at q; cases q).trans (st b o q);have he1:h1.get? e=some oe:=(so.2.1 e notf).trans he;unfold EntryCells.newEntry newFields;refine wpAny_bind (wpAny_newObj_type ?_ (hpl.sizeOk5 _ _ _ _ _));generalize ht:([hd0,Value.ref L,.none,rawInt L,.none]++(if pl.isEmpty then List.replicate 6 Value.none else pl)).toArray=ts;have ht3:ts[3]?=some (rawInt L):=by rw[<-ht]; simp
  have he2:=Heap.get?_push_of_some (h:=h1) { cls:=.type "traceback", dict:=none,data:=.fields ts } he1;refine wpAny_setField he2 hd hz (k _ ?_ ?_ ?_ ?_)
  · intro b o q
    rw[Heap.get?_update_other _ _ λz=>by subst z; rw[nb] at q; cases q];exact Heap.get?_push_of_some _ (st1 b o q)
  · exact ZdV ((u1.trans (.of_keeps λb o q=>Heap.get?_push_of_some _ q)).trans (ZcA _ he2 hd)) fl
  · have nT:h1.objs.size≠e:=Nat.ne_of_gt (Heap.lt_size he1)
    refine ⟨_,_,h1.objs.size,{ cls:=.type "traceback", dict:=none,data:=.fields ts },ts,Heap.get?_update_self _ he2 (Obj.isFreed_of_fields (Obj.data_mapFields hd _)),Obj.cls_mapFields _ _,ZfS _ _,Obj.data_mapFields hd _,?_,?_,st1.fresh,nT,?_,rfl,ht3⟩
    · rw[Array.getElem?_setIfInBounds_ne ∅]; exact h0
    · simp[hz]
    · rw[Heap.get?_update_other _ _ (Ne.symm nT)]
      exact Heap.get?_push_size h1 rfl
  · exact (u1.trans (.of_keeps λb o q=>Heap.get?_push_of_some _ q)).trans (ZcA _ he2 hd)
theorem ZjO(hfr:A.frames=some (env::outer))(fl:s.heap.FunFrames B (env::outer))(hf:env.frame=some L)(he:s.heap.get? e=some oe)(st:B.StaysIn s.heap)(nb:B.get? e=none)(hd:oe.data = .fields vs)
    (h0:vs[0]?=some a0) (h1:vs[1]?=some .none) (k:∀h',B.StaysIn h'->h'.FunFrames B (env::outer)->Tr h' B e oe.cls a0 oe.dict (rawInt L)->s.heap.UpToSlots h'->Q () { s with heap:=h' }) :
    wpAny M A (noteFrame (.ref e) env) Q E s:=by
  unfold noteFrame
  simp only[hf]
  refine wpAny_bind (wpAny_field he hd h1 ?_);rw[if_neg ∅];exact Zhz hfr fl hf he st nb hd h0 (Array.getElem?_eq_some_iff.mp h1).1 k
theorem ZkN(hfr:A.frames=some (env::outer))(fl:s.heap.FunFrames B (env::outer))(hf:env.frame=some L)(tr:Tr s.heap B e cls a0 dd .none)(st:B.StaysIn s.heap)(nb:B.get? e=none)
    (k:∀h',B.StaysIn h'->h'.FunFrames B (env::outer)->Tr h' B e cls a0 dd (rawInt L)->s.heap.UpToSlots h'->Q () { s with heap:=h' }):wpAny M A (noteFrame (.ref e) env) Q E s:=by
  obtain ⟨oe,vs,T,oT,ts,he,rfl,rfl,hd,h0,h1,nT,hTe,hT,hdT,h3⟩:=tr;unfold noteFrame
  simp only[hf]
  refine wpAny_bind (wpAny_field he hd h1 ?_);rw[if_pos (show (Value.ref T != Value.none)=true from by simp)];refine wpAny_bind (wpAny_field hT hdT h3 ?_);rw[if_neg (show ¬((Value.none==rawInt L)=true) from by simp[rawInt])];have u:=ZcA (·.setIfInBounds 3 Value.none) hT hdT;refine wpAny_bind (wpAny_setField hT hdT (Array.getElem?_eq_some_iff.mp h3).1 (Zhz (s:={ s with heap:=s.heap.update T (Obj.mapFields (·.setIfInBounds 3 Value.none)) }) hfr (ZdV u fl) hf (by rw[Heap.get?_update_other _ _ hTe]; exact he) (λb o q=>?_) nb hd h0 (Array.getElem?_eq_some_iff.mp h1).1 λh' a b c d=>k h' a b c (u.trans d)));rw[Heap.get?_update_other _ _ λz=>by subst z; rw[nT] at q; cases q];exact st b o q
theorem Zmq{fl0:Value}{l:List Env}(fl:s.heap.FunFrames B l)(tr:Tr s.heap B e cls a0 dd fl0)(st:B.StaysIn s.heap)
    (k:∀h',B.StaysIn h'->h'.FunFrames B l->Tr h' B e cls a0 dd .none->s.heap.UpToSlots h'->Q () { s with heap:=h' }):wpAny M A (setFlight (.ref e) none) Q E s:=by
  obtain ⟨oe,vs,T,oT,ts,he,rfl,rfl,hd,h0,h1,nT,hTe,hT,hdT,h3⟩:=tr;have h3':3<ts.size:=(Array.getElem?_eq_some_iff.mp h3).1;have u:=ZcA (·.setIfInBounds 3 ((none:Option Addr).elim Value.none λf=>rawInt f)) hT hdT;unfold setFlight;refine wpAny_bind (wpAny_field he hd h1 ?_);rw[if_pos (show (Value.ref T != Value.none)=true from by simp)];refine wpAny_setField hT hdT h3' (k _ (λb o q=>?_) (ZdV u fl) ⟨oe,vs,T,_,_,?_,rfl,rfl,hd,h0,h1,nT,hTe,Heap.get?_update_self _ hT (Obj.isFreed_of_fields (Obj.data_mapFields hdT _)),Obj.data_mapFields hdT _,by simp[h3']⟩ u)
  · rw[Heap.get?_update_other _ _ λz=>by subst z; rw[nT] at q; cases q]
    exact st b o q
  · rw[Heap.get?_update_other _ _ hTe]; exact he
end
structure Air (P:Program) (w:World) (B:Heap) (l:List Env) (H:Hp) (h:Heap) (e t:Addr) (cls:Value) (dd:Option Addr) (fl:Value):Prop where
 hok:HOk P w H h
 st:B.StaysIn h
 nb:B.get? e=none
 fr:h.FunFrames B l
 tr:Tr h B e cls (.ref t) dd fl
 tk:∀b u,H b=some u->∃o,B.get? b=some o
theorem Air.free{P:Program}{w:World}{B:Heap}{l:List Env}{H:Hp}{h:Heap}{e t:Addr}{cls:Value}{dd:Option Addr}{fl:Value}(a:Air P w B l H h e t cls dd fl):H e=none:=by
 cases q:H e with
 |none=>rfl
 |some u=>obtain ⟨o,z⟩:=a.tk e u q;rw[a.nb] at z;cases z
theorem ZkO{P:Program}{w:World}{B:Heap}{H:Hp}{h h':Heap}(x:HOk P w H h)(st:B.StaysIn h)(st':B.StaysIn h')(tk:∀b u,H b=some u->∃o,B.get? b=some o):HOk P w H h':=λa o e =>
 (x a o e).stay (λb u hb q=>by
  have:∃v,H b=some v:=by
   rcases hb with rfl|hb
   ·exact ⟨o,e⟩
   ·exact ⟨_,hb⟩
  obtain ⟨v,hv⟩:=this;obtain ⟨ob,z⟩:=tk b v hv;have e2:=(st b ob z).symm.trans q
  cases e2
  exact st' b _ z) (λ_ q=>q) λ_ _ q=>q
def CXx(P:Program)(w:World):CXT:=λouter H s E ev s' =>
 ∃(e t:Addr) (cls:Value) (dd:Option Addr) (H':Hp) (B:Heap),ev = .ref e/\s'.os=s.os/\AllBare s'.gens/\Un (frs outer) [] H H' s.heap s'.heap/\Air P w B outer H' s'.heap e t cls dd .none ∧
  (∀b o,s.heap.get? b=some o->H b=none->b∉frs outer->B.get? b=some o)/\(∀b o,s.heap.get? b=some o->b∉frs outer->∃o',B.get? b=some o')/\E cls dd H'
section
variable{M:Model}{A:Around}{E:Value->Shared->Prop}{s:Shared}{P:Program}{w:World}{B:Heap}{env:Env}{outer:List Env}{H:Hp}{L e t:Addr}{cls:Value}{dd:Option Addr}{fl:Value}{Q:Unit->Shared->Prop}{B0:Heap}
theorem Air.note(a:Air P w B (env::outer) H s.heap e t cls dd .none)(hfr:A.frames=some (env::outer))(hf:env.frame=some L)(k:∀h',Air P w B (env::outer) H h' e t cls dd (rawInt L)->s.heap.UpToSlots h'->Q () { s with heap:=h' }) :
    wpAny M A (noteFrame (.ref e) env) Q E s :=
  ZkN hfr a.fr hf a.tr a.st a.nb λh' st fr tr up=>k h' ⟨ZkO a.hok a.st st a.tk,st,a.nb,fr,tr,a.tk⟩ up
theorem Air.off{l:List Env}(a:Air P w B l H s.heap e t cls dd fl)(k:∀h',Air P w B l H h' e t cls dd .none->s.heap.UpToSlots h'->Q () { s with heap:=h' }):wpAny M A (setFlight (.ref e) none) Q E s :=
 Zmq a.fr a.tr a.st λh' st fr tr up=>k h' ⟨ZkO a.hok a.st st a.tk,st,a.nb,fr,tr,a.tk⟩ up
theorem Air.leave(a:Air P w B (env::outer) H s.heap e t cls dd .none)(hfr:A.frames=some (env::outer))(hf:env.frame=some L)(k:∀h',Air P w B outer H h' e t cls dd .none->s.heap.UpToSlots h'->Q () { s with heap:=h' }) :
    wpAny M A (leaving env (.ref e)) Q E s:=by
  unfold leaving;refine wpAny_bind (a.note hfr hf λh1 a1 u1=>?_);refine Air.off (s:={ s with heap:=h1 }) a1 λh2 a2 u2=>?_;obtain ⟨_,_,fr⟩:=a2.fr;exact k h2 ⟨a2.hok,a2.st,a2.nb,fr,a2.tr,a2.tk⟩ (u1.trans u2)
theorem Zos{s0:Heap}{vs:List Value}(hok:HOk P w H s0)(fl0:s0.FunFrames B0 (env::outer))(hm:Heap.MadeExcOf s0 s.heap e cls vs)(hn:∀b∈frs (env::outer),H b=none)(hfr:A.frames=some (env::outer))(hf:env.frame=some L)
    (k:∀h' t,Air P w (PySem.W.hideAll s0 (frs (env::outer))) (env::outer) H h' e t cls none (rawInt L)->s0.UpToSlots h'->Q () { s with heap:=h' }):wpAny M A (noteFrame (.ref e) env) Q E s:=by
  obtain ⟨t,he,_,_⟩:=hm.there;have st0:(PySem.W.hideAll s0 (frs (env::outer))).StaysIn s0:=λb o q=>PySem.W.of_hideAll _ q;have st:(PySem.W.hideAll s0 (frs (env::outer))).StaysIn s.heap:=λb o q=>hm.keeps b o (st0 b o q);have tk:∀b u,H b=some u->∃o,(PySem.W.hideAll s0 (frs (env::outer))).get? b=some o:=λb u q=>by
    have lt:=hok.lt q;obtain ⟨o,ho⟩:∃o,s0.get? b=some o:=by
      have x:=hok b u q
      cases u with
      | lst xs=>obtain ⟨_,_,_,_,z⟩:=x; exact ⟨_,z⟩
      | tup xs=>obtain ⟨_,_,_,o,z,_⟩:=x; exact ⟨_,z⟩
      | dK kvs=>obtain ⟨_,_,_,_,o,_,_,z,_⟩:=x; exact ⟨_,z⟩
      | dT kvs=>obtain ⟨_,_,_,_,o,_,_,z,_⟩:=x; exact ⟨_,z⟩
      | set S n=>obtain ⟨o,_,_,_,z,_⟩:=x; exact ⟨_,z⟩
      | ins C dx fs=>obtain ⟨_,_,_,z,_⟩:=x; exact ⟨_,z⟩
      | own y=>obtain ⟨_,z⟩:=x; exact ⟨_,z⟩
      | xd fs=>obtain ⟨_,⟨_,_,_,z,_⟩,_⟩:=x; exact ⟨_,z⟩
      | rng lo hi=>obtain ⟨_,_,_,z⟩:=x; exact ⟨_,z⟩
      | frz ob v=>obtain ⟨z,_⟩:=x; exact ⟨_,z⟩
      | tbl ps=>exact ⟨_,(show s0.get? b=some _ from x)⟩
      | met f y=>exact ⟨_,(show s0.get? b=some _ from x)⟩
      | ext φ=>obtain ⟨_,⟨_,z⟩,_⟩:=x; exact ⟨_,z⟩
    exact ⟨o,PySem.W.hideAll_get _ ho λhm=>by rw[hn b hm] at q; cases q⟩
  have nb:(PySem.W.hideAll s0 (frs (env::outer))).get? e=none:=by
    cases q:(PySem.W.hideAll s0 (frs (env::outer))).get? e with
    | none=>rfl
    | some o=>have:=st0 e o q; rw[hm.new] at this; cases this
  have fl1:s0.FunFrames (PySem.W.hideAll s0 (frs (env::outer))) (env::outer):=PySem.W.funFrames_hide fl0 λx hx a ha=>List.mem_filterMap.mpr ⟨x,hx,ha⟩;refine ZjO hfr (ZdV (.of_keeps hm.keeps) fl1) hf he st nb rfl rfl rfl λh' st' fr tr up=>?_;exact k h' t ⟨ZkO hok st0 st' tk,st',nb,fr,tr,tk⟩ ((Heap.UpToSlots.of_keeps hm.keeps).trans up)
end
theorem ZkP{env:Env}{outer:List Env}{L b:Addr}(hf:env.frame=some L):b∈frs (env::outer)↔b=L\/b∈frs outer:=by
 unfold frs;rw[Up,hf,Qe]
section
variable{X:Cx}{pins:List (Addr×Obj)}{σ:St}{H1 H2:Hp}{s1:Shared}{B h2 h3:Heap}
theorem Zh8(U:Un (frs X.stack) [] H1 H2 s1.heap h2)(fr:h2.FunFrames B X.stack)(up:h2.UpToSlots h3)(st:B.StaysIn h3)(in1:∀b o,s1.heap.get? b=some o->H1 b=none->b∉frs X.stack->B.get? b=some o)
    (in2:∀b o,s1.heap.get? b=some o->b∉frs X.stack->∃o',B.get? b=some o'):Un (frs X.stack) [] H1 H2 s1.heap h3 where
  keep:=λb o q n hb _=>st b o (in1 b o q n hb)
  slot:=λb o q n hb hx=>by
    obtain ⟨sl,e⟩:=U.slot b o q n hb hx;obtain ⟨_,o',e',nf⟩:=fr.mem hb;rw[e] at e'
    cases e'
    obtain ⟨sl',e2⟩:=up b _ e nf;exact ⟨sl',e2⟩
  free:=U.free
  there:=λb o q hx=>by
    by_cases hb:b∈frs X.stack
    · obtain ⟨_,o',e',nf⟩:=fr.mem hb
      obtain ⟨sl,e2⟩:=up b _ e' nf;exact ⟨_,e2⟩
    · obtain ⟨o',z⟩:=in2 b o q hb
      exact ⟨o',st b o' z⟩
  tups:=U.tups
  frzs:=U.frzs
  tbls:=U.tbls
theorem ZkQ(I:Inv X pins σ H1 s1)(hx:X.ex=[])(hs:X.stack=X.env::X.outer)(hf:X.env.frame=some X.env.locals)(U:Un (frs X.stack) [] H1 H2 s1.heap h2)(fr:h2.FunFrames B X.stack)(up:h2.UpToSlots h3)(st:B.StaysIn h3)
    (in1:∀b o,s1.heap.get? b=some o->H1 b=none->b∉frs X.stack->B.get? b=some o) (in2:∀b o,s1.heap.get? b=some o->b∉frs X.stack->∃o',B.get? b=some o') :
    Un X.fs [] X.H₀ H2 X.s₀.heap h3/\(∀b o,X.s₀.heap.get? b=some o->X.H₀ b=none->b∉X.fs->B.get? b=some o)/\∀b o,X.s₀.heap.get? b=some o->b∉X.fs->∃o',B.get? b=some o':=by
  have V:=Zh8 U fr up st in1 in2;have ib:Un X.fs [] X.H₀ H1 X.s₀.heap s1.heap:=by have:=I.base; rw[hx] at this; exact this
  have ne:∀b o,X.s₀.heap.get? b=some o->b≠X.env.locals:=λb o q z=>by
    subst z;exact absurd (Q8 (Heap.lt_size q) I.ok.above) (Wd _)
  have nm:∀b o,X.s₀.heap.get? b=some o->b∉X.fs->b∉frs X.stack:=λb o q hb z=>by
    rw[hs] at z;rcases (ZkP hf).mp z with e | e
    · exact ne b o q e
    · exact hb e
  have sub:∀b,b∈X.fs->b∈frs X.stack:=λb hb=>by rw[hs]; exact (ZkP hf).mpr (.inr hb)
  refine ⟨⟨λb o q n hb hx=>?_,λb o q n hb hx=>?_,λb o q n hx=>?_,λb o q hx=>?_,λb xs q=>V.tups b xs (ib.tups b xs q),λb o u q=>V.frzs b o u (ib.frzs b o u q),λb ps q=>?_⟩,λb o q n hb=>?_,λb o q hb=>?_⟩
  · exact V.keep b o (ib.keep b o q n hb hx) (ib.free b o q n hx) (nm b o q hb) hx
  · obtain ⟨sl,e⟩:=ib.slot b o q n hb hx
    obtain ⟨sl',e'⟩:=V.slot b _ e (ib.free b o q n hx) (sub b hb) hx;exact ⟨sl',e'⟩
  · obtain ⟨o',e⟩:=ib.there b o q hx
    exact V.free b o' e (ib.free b o q n hx) hx
  · obtain ⟨o',e⟩:=ib.there b o q hx
    exact V.there b o' e hx
  · obtain ⟨m1,e1⟩:=ib.tbls b ps q
    obtain ⟨m2,e2⟩:=V.tbls b _ e1;exact ⟨m1++m2,by rw[e2,Array.append_assoc]⟩
  · exact in1 b o (ib.keep b o q n hb (by simp)) (ib.free b o q n (by simp)) (nm b o q hb)
  · obtain ⟨o',e⟩:=ib.there b o q (by simp)
    exact in2 b o' e (nm b o q hb)
end
section
variable{P:Program}{w:World}{K:ZZfg}{mg:ZZmg}{base:Heap}{N:List Str}{qual:Str}{scope:Scope}{f:Addr}{cd:Value}{A:Around}{outer:List Env}{s:Shared}{H:Hp}{E:XK}
abbrev cxX(P:Program)(w:World)(K:ZZfg)(mg:ZZmg)(base:Heap)(N:List Str)(qual:Str)(scope:Scope)(f:Addr)(cd:Value)(A:Around)(outer:List Env)(s:Shared)(H:Hp)(E:XK):Cx :=
 Zoe (CXx P w) P w K mg base N qual scope f cd A outer s H E
def ZhA(X:Cx)(E:St->XK):Prop:=∀(pins:List (Addr×Obj)) (σ:St) (H:Hp) (s:Shared) (e:Value) (s':Shared),Inv X pins σ H s->CXx X.prog X.w X.stack H s (E σ) e s'->X.xe e s'
theorem Zff:ZhA (cxX P w K mg base N qual scope f cd A outer s H E) λ_=>E:=by
 intro pins σ H1 s1 ev s2 I h;obtain ⟨e,t,cls,dd,H2,B,rfl,os,bare,U,a,in1,in2,q⟩:=h;show wpAny (model P w) (A.deeper (envOfC qual scope s.heap.objs.size f cd)) (leaving (envOfC qual scope s.heap.objs.size f cd) (.ref e)) _ _ s2;have hfr:=I.ok.frames;refine Air.leave (L:=s.heap.objs.size) a hfr rfl λh3 a3 up=>?_;obtain ⟨u,i1,i2⟩:=ZkQ I rfl rfl rfl U a.fr up a3.st in1 in2;exact ⟨e,t,cls,dd,H2,B,rfl,os.trans I.os,bare,u,a3,i1,i2,q⟩
theorem Zcr{X:Cx}:ZhA X λ_=>E0:=λ_ _ _ _ _ _ _ ⟨_,_,_,_,_,_,_,_,_,_,_,_,_,q⟩=>q.elim
def ZkR(X:Cx)(E:XK):Prop:=∀(pins:List (Addr×Obj)) (σ:St) (H:Hp) (s:Shared) (h':Heap) (e:Addr) (cls:Value) (vs:List Value),Inv X pins σ H s->Heap.MadeExcOf s.heap h' e cls vs->E cls none H->X.xe (.ref e) { s with heap:=h' }
theorem ZeP:ZkR (cxX P w K mg base N qual scope f cd A outer s H E) E:=by
 intro pins σ H1 s1 h' e cls vs I hm q;show wpAny (model P w) (A.deeper (envOfC qual scope s.heap.objs.size f cd)) (leaving (envOfC qual scope s.heap.objs.size f cd) (.ref e)) _ _ _;have hfr:=I.ok.frames;unfold leaving;refine wpAny_bind (Zos (s:={ s1 with heap:=h' }) I.hok I.stack hm I.stkFree hfr rfl λh2 t a2 u2=>?_);refine Air.off (s:={ s1 with heap:=h2 }) a2 λh3 a3 u3=>?_;obtain ⟨_,_,fr⟩:=a3.fr;have fr0:s1.heap.FunFrames (PySem.W.hideAll s1.heap (frs (cxX P w K mg base N qual scope f cd A outer s H E).stack)) (cxX P w K mg base N qual scope f cd A outer s H E).stack:=PySem.W.funFrames_hide I.stack λx hx a ha=>List.mem_filterMap.mpr ⟨x,hx,ha⟩;obtain ⟨u,i1,i2⟩:=ZkQ I rfl rfl rfl .refl fr0 (u2.trans u3) a3.st (λb o e _ hb=>PySem.W.hideAll_get _ e hb) (λb o e hb=>⟨o,PySem.W.hideAll_get _ e hb⟩);exact ⟨e,t,cls,none,H1,_,rfl,I.os,I.bare,u,⟨a3.hok,a3.st,a3.nb,fr,a3.tr,a3.tk⟩,i1,i2,q⟩
theorem Fun.okx{x qual:Str}{st:Stmt}{f:Addr}{fd:FuncData}{N ps:List Str}{k:Nat}{sp:Sp}(F:Fun K x qual st f fd)(S:FnScope N ps (Zah st))(len:∀vs H Q E,sp vs H Q E->vs.length=ps.length)
    (hbody:∀(cdv:Value) (A:Around) (outer:List Env) (s:Shared) (H:Hp) (vs:List V) (Q:VK) (E:XK),Room k (A.deeper (envOfC qual (Zah st) s.heap.objs.size f cdv))->sp vs H Q E →
      ∃t,PSs (cxX P w K mg base N qual (Zah st) f cdv A outer s H E) (Za7 st) t/\t { nx:=λ_ H'=>Q .non H',rt:=Q } (start N vs) H):FnOk P w K mg base (CXx P w) (k+1) f fd ps sp:=by
  obtain ⟨oc,od,kV,doc,pm,an,cdv,ct,osl,rfl,lk,hcd⟩:=F.ex;exact Zof lk hcd S len λA outer s H vs Q E hr hsp=>hbody cdv A outer s H vs Q E hr hsp
end
structure HasX (P:Program) (w:World) (K:ZZfg) (mg:ZZmg) (base:Heap) (x:Str) (k:Nat) (ps:List Str) (sp:Sp):Prop where
 ex:∃(f:Addr) (fd:FuncData),FnOk P w K mg base (CXx P w) k f fd ps sp/\mg x=some (.ref f)/\PySem.W.keepIn K (.ref f)=true/\Binds K fd ps []
structure HasMX (P:Program) (w:World) (K:ZZfg) (mg:ZZmg) (base:Heap) (C:Addr) (m:Str) (k:Nat) (ps:List Str) (dvs:List V) (sp:Sp):Prop where
 ex:∃(f:Addr) (fd:FuncData) (ds:List Value),FnOk P w K mg base (CXx P w) k f fd ps sp/\Meth K C m f/\Binds K fd ps ds/\Vals dvs ds
structure HasIX (P:Program) (w:World) (K:ZZfg) (mg:ZZmg) (base:Heap) (C:Addr) (k:Nat) (ps:List Str) (sp:Sp):Prop where
 ex:∃(f:Addr) (fd:FuncData),Mk K C f/\FnOk P w K mg base (CXx P w) k f fd ps sp/\Binds K fd ps []
section
variable{P:Program}{w:World}{K:ZZfg}{mg:ZZmg}{base:Heap}{x m qual:Str}{C:Addr}{st:Stmt}{j k:Nat}{ps:List Str}{dvs:List V}{sp:Sp}
theorem HasX.mono(h:HasX P w K mg base x j ps sp)(e:j<=k):HasX P w K mg base x k ps sp:=let ⟨f,fd,a,b,c,d⟩:=h.ex;⟨f,fd,a.mono e,b,c,d⟩
theorem HasMX.mono(h:HasMX P w K mg base C m j ps dvs sp)(e:j<=k):HasMX P w K mg base C m k ps dvs sp:=let ⟨f,fd,ds,a,b,c,d⟩:=h.ex;⟨f,fd,ds,a.mono e,b,c,d⟩
theorem Here.hasX(h:Here K mg x st)(b:∀f fd,Fun K x x st f fd->Binds K fd ps [])(ok:∀f fd,Fun K x x st f fd->FnOk P w K mg base (CXx P w) k f fd ps sp):HasX P w K mg base x k ps sp :=
 let ⟨f,fd,F,m⟩:=h.ex
 ⟨f,fd,ok f fd F,m,F.kp,b f fd F⟩
theorem HereM.hasMX(h:HereM K C m qual st)(b:∀f fd,Fun K m qual st f fd->Binds K fd ps [])(ok:∀f fd,Fun K m qual st f fd->FnOk P w K mg base (CXx P w) k f fd ps sp):HasMX P w K mg base C m k ps [] sp :=
 let ⟨f,fd,F,M⟩:=h.ex
 ⟨f,fd,[],ok f fd F,M,b f fd F,.nil⟩
end
section
variable{X:Cx}{k:Nat}{f C:Addr}{fd:FuncData}{ps:List Str}{sp:Sp}{dvs:List V}{ds:List Value}{E:St->XK}{x m:Str}{p pos apos:Pos}{e o:Expr}{es:List Expr}{ta:TE}{t:TA}
theorem ZkS{pins:List (Addr×Obj)}{σ:St}{H:Hp}{s:Shared}{Q:VK}{us:List Value}{vs:List V}(F:FnOk X.prog X.w X.K X.mg X.base (CXx X.prog X.w) k f fd ps sp)(hr:Room k X.A)(hb:Binds X.K fd ps ds)(hd:Vals dvs ds)(hx:ZhA X E)
    (I:Inv X pins σ H s) (r:Vals vs us) (h:sp (vs++dvs) H Q (E σ)):wpAny (model X.prog X.w) X.A (call (.ref f) us) (EP X pins σ Q) X.xe s:=by
  have r2:Vals (vs++dvs) (us++ds):=r.append hd;have hl:(us++ds).length=ps.length:=by rw[<-r2.length]; exact F.len _ _ _ _ h
  refine wpAny_call (codeAny_mono (F.run X.A X.stack s H ⟨us,[]⟩ (us++ds) (vs++dvs) Q (E σ) hr I.env0 (hb s us I.kIn hl) r2 h) λr s' hq=>?_)
  cases r with
  | error e=>exact hx pins σ H s e s' I hq
  | ok fl =>
    cases fl with
    | ret u=>exact I.after hq
    | next=>exact False.elim hq
    | brk=>exact False.elim hq
    | cont=>exact False.elim hq
theorem ZbA(h:HasX X.prog X.w X.K X.mg X.base x k ps sp)(hx:ZhA X E)(hr:Room k X.A)(hg:Gl X x)(ha:PA X (e::es) t)(hdb:(x==("__debug__" : Str))=false:=by decide)
    (he:starEach (e::es) X.env=(false,eval e X.env)::starEach es X.env:=by rfl) (hpl:(backTo pos (starEach es X.env)).any (·.1)=false:=by rfl) :
    PE X (.Call (.Name x p) (e::es) [] pos) (λσ H Q=>t σ H λvs H1=>sp vs H1 Q (E σ)):=by
  obtain ⟨f,fd,F,hm,hk,hb⟩:=h.ex;intro pins s σ H Q I h;refine wpAny_Call_Name_kw (Zdy I hg hm ?_ hdb);refine PySem.W.callWith_K (h₀:=X.base) I.ok.mod.kin hk (thn (ha pos pins s σ H _ I h) λus s1 ⟨vs,H1,I1,r,q⟩=>⟨I1.kIn,?_⟩) he hpl;exact ZkS (dvs:=[]) F hr hb .nil hx I1 r (by rw[Us]; exact q)
inductive ZkT (P:Program) (w:World) (K:ZZfg) (mg:ZZmg) (base:Heap) (m:Str) (k:Nat) (x:V) (H1:Hp) (R:List V->Sp->Prop):Prop
 |mk (a C:Addr) (dx:_) (fs:_) (ps:List Str) (dvs:List V) (sp:Sp) (_:x = .ref a) (_:H1 a=some (.ins C dx fs)) (_:Cls K C) (_:HasMX P w K mg base C m k ps dvs sp) (_:fs.lookup m=none) (_:R dvs sp):ZkT P w K mg base m k x H1 R
def Znw(P:Program)(w:World)(K:ZZfg)(mg:ZZmg)(base:Heap)(m:Str)(k:Nat)(E:St->XK)(ta:TE)(t:TA):TE:=λσ H Q=>ta σ H λx H1=>ZkT P w K mg base m k x H1 λdvs sp=>t σ H1 λvs H2=>sp (x::(vs++dvs)) H2 Q (E σ)
theorem ZaI{pl:Sem Bool}(he:PE X o ta)(hx:ZhA X E)(hr:Room k X.A)(ha:PA X (e::es) t)
    (hst:starEach (e::es) X.env=(false,eval e X.env)::starEach es X.env:=by rfl) (hpl:(backTo pos (starEach es X.env)).any (·.1)=false:=by rfl)
    (ht:eval (.Call (.Attribute o m apos) (e::es) [] pos) X.env=(do
      let ov ← eval o X.env
      standAt apos.atName
      let (f,first) ← holding [ov] (getMethod ov m pl)
      callWith pos f first (backTo pos (starEach (e::es) X.env)) (backToKw pos (keywordEach [] X.env))):=by rfl) :
    PE X (.Call (.Attribute o m apos) (e::es) [] pos) (Znw X.prog X.w X.K X.mg X.base m k E ta t):=by
  intro pins s σ H Q I h;refine PySem.W.methodCall_KW (pl:=pl) (thn (he pins s σ H _ I h) λu s1 ⟨x,H1,I1,rx,a,C,dx,fs,ps,dvs,sp,ex,ea,c,hM,l,q⟩=>?_) ht;subst ex;obtain rfl:u=Value.ref a:=rx;obtain ⟨f,fd,ds,F,hm,hb,hd⟩:=hM.ex;refine Zga I1 ea c hm l ?_;refine PySem.W.callWith_K (first:=[.ref a]) (h₀:=X.base) I.ok.mod.kin hm.kp (thn (ha pos pins s1 σ H1 _ I1 q) λus s2 ⟨vs,H2,I2,r,q2⟩=>⟨I2.kIn,?_⟩) hst hpl;exact ZkS (us:=.ref a::us) (vs:=.ref a::vs) F hr hb hd hx I2 (.cons rfl r) q2
end
abbrev bmV:List Value:=[.type "ValueError", .type "Exception", .type "BaseException", .type "object"]
structure ExcC (K:ZZfg) (mg:ZZmg) (x:Str) (C:Addr):Prop where
 cls:XCls K C
 mgx:mg x=some (.ref C)
 ein:PySem.W.excIn K C bmV "ValueError.__new__"=true
theorem ExcC.obj{K:ZZfg}{mg:ZZmg}{x:Str}{C:Addr}(c:ExcC K mg x C){h:Heap}(X:K.In h):OwnCls x C bmV "ValueError.__new__" mg h:=by
 refine ⟨c.mgx,?_⟩;have q:=c.ein;unfold PySem.W.excIn at q
 split at q
 ·rename_i dd cd sl ho
  split at q
  ·rename_i C' bm k0 k1 k2 k3 n k5 hm hs
   simp only[Bool.and_eq_true,beq_iff_eq,Bool.not_eq_true'] at q
   obtain ⟨⟨⟨⟨⟨rfl,rfl⟩,hdel⟩,ht⟩,hok⟩,hni⟩:=q;obtain ⟨nm,bs,mro,ns,qn,hd,sn,sub,ab,col,del⟩:=cd
   dsimp only at hm hdel hok hni
   subst hm hdel;obtain ⟨l⟩:=sl;have hl:l=[k0,k1,k2,k3,some (.builtin "ValueError.__new__"),k5]:=hs;subst hl;exact ⟨bm,ns,nm,qn,bs,hd,sn,sub,ab,col,dd,k0,k1,k2,k3,k5,_,X _ _ ho,.of_isNs (PySem.W.isNs_of_in X hok),PySem.W.nsMap_none_of_in X hok hni,PySem.W.tail_of_in X ht⟩
  ·cases q
 ·cases q
section
variable{X:Cx}{k:Nat}{C:Addr}{ps:List Str}{sp:Sp}{x m:Str}{p pos np cpos:Pos}{e:Expr}{es:List Expr}{t:TA}
theorem Zca{E:XK}(c:ExcC X.K X.mg x C)(hR:ZkR X E)(hcalm:X.calm=true)(hg:Gl X x)(ha:PA X (e::es) t)(hl:(e::es).length<=1000:=by decide)
    (he:starEach (e::es) X.env=(false,eval e X.env)::starEach es X.env:=by rfl) (hpl:(backTo cpos (starEach es X.env)).any (·.1)=false:=by rfl) (hdb:(x==("__debug__" : Str))=false:=by decide) :
    PS X (.Raise (some (.Call (.Name x np) (e::es) [] cpos)) none pos) (λ_ σ H=>t σ H λvs H1=>vs.length<=1000/\E (.ref C) none H1):=by
  intro pins s σ H D I h;obtain ⟨bm,N,nm,q,bs,hdct,sn,sub,ab,col,dd,k0,k1,k2,k3,k5,mN,hC,hN,hni,T⟩:=(c.obj I.mod.kin).obj;refine wpAny_Raise_call_subT (C:=C) (nm:=nm) (q:=q) (N:=N) (bs:=bs) (bm:=bm) (hdct:=hdct) (sn:=sn) (sub:=sub) (ab:=ab) (col:=col) (dd:=dd) (k0:=k0) (k1:=k1) (k2:=k2) (k3:=k3) (k5:=k5) PySem.F.excBase_ValueError
    (mN:=mN) (T.hasType PySem.F.excBase_ValueError.hasBase) (I.ok.hd hcalm) (by rw[he]; show (false||(backTo cpos (starEach es X.env)).any (·.1))=false; rw[hpl]; rfl) hni (Zdy I hg c.mgx ⟨rfl,?_⟩ hdb)
  have z:=ha cpos pins s σ H _ I h;rw[he] at z ⊢;refine Calls.evalArgs_plain (wpAny_mono z (λus s2 ⟨vs,H2,I2,r,hv,q2⟩=>⟨rfl,?_,I2.bk _ _ hC,hN.keeps I2.bk,T.keeps I2.bk,λh' e' hm=>hR pins σ H2 s2 h' e' _ _ I2 hm q2⟩) λ_ _ y=>y);rw[<-r.length];exact Uh (ZdS hv)
end
def Zot(e C:Addr)(dd:Option Addr):HO:=.ext λh=>∃oe vs,h.get? e=some oe/\oe.cls = .ref C/\oe.dict=dd/\oe.data = .fields vs
section
variable{X:Cx}{pins:List (Addr×Obj)}{σ σ1:St}{H H1:Hp}{s s1:Shared}{e C:Addr}{dd:Option Addr}
theorem Inv.track(I:Inv X pins σ H s)(I1:Inv X pins σ1 H1 s1)(ne:s1.heap.get? e=none)(hn:H e=none){oe:Obj}{vs:Array Value}(he:s.heap.get? e=some oe)(hc:oe.cls = .ref C)(hd:oe.dict=dd)(hv:oe.data = .fields vs):Inv X pins σ (upd H e (Zot e C dd)) s:=by
 have nx:∀b u,H b=some u->b≠e:=λb u q z=>by subst z;rw[hn] at q;cases q
 have nh:∀b o,s1.heap.get? b=some o->b≠e:=λb o q z=>by subst z;rw[ne] at q;cases q
 have ib:=I.base;refine ⟨I.ok,I.os,I.bare,⟨ib.keep,ib.slot,λb o q n hx=>?_,ib.there,λb xs q=>?_,λb o u q=>?_,λb ps q=>?_⟩,I.loc,I.cell,?_,λx c q=>?_,λp hp=>?_,λb u q=>?_,I.len⟩
 ·obtain ⟨o',z⟩:=I1.base.there b o q hx;rw[Zau (nh b o' z)];exact ib.free b o q n hx
 ·have z:=ib.tups b xs q;rw[Zau (nx b _ z)];exact z
 ·have z:=ib.frzs b o u q;rw[Zau (nx b _ z)];exact z
 ·obtain ⟨m,z⟩:=ib.tbls b ps q;exact ⟨m,by rw[Zau (nx b _ z)];exact z⟩
 ·obtain ⟨m,⟨o,es,ep,z,_⟩,_⟩:=I1.loc;rw[Zau (nh _ o z)];exact I.free
 ·obtain ⟨v,o,z,_⟩:=I1.cell x c q;rw[Zau (nh _ o z)];exact I.freeC x c q
 ·obtain ⟨a,b,c,d,f⟩:=I.pin p hp;exact ⟨a,by rw[Zau (nh _ _ (I1.pin p hp).1)];exact b,c,d,f⟩
 ·by_cases hb:b=e
  ·subst hb;rw[Zaf] at q
   cases q
   refine ⟨⟨oe,vs,he,hc,hd,hv⟩,⟨oe,he⟩,λh1 h2=>?_⟩;rintro ⟨o1,v1,a,b,c,d⟩ k;exact ⟨o1,v1,k _ a,b,c,d⟩
  ·rw[Zau hb] at q;exact (I.hok b u q).stay (λc v _ z=>z) (λc z=>by rw[Zau (nx c _ z)];exact z) λc xs z=>by rw[Zau (nx c _ z)];exact z
def Cx.suite(X:Cx)(e:Addr):Cx:={ X with A:=X.A.mark (some (.ref e)),calm:=false,xe:=λ_ _=>False }
theorem Inv.suite(I:Inv X pins σ H s)(e:Addr):Inv (X.suite e) pins σ H s :=
 ⟨⟨I.ok.mod,I.ok.kind,I.ok.glob,I.ok.blt,I.ok.above,I.ok.inj,I.ok.has,I.ok.cab,(λz=>nomatch z),I.ok.frames,I.ok.stk,I.ok.exf,I.ok.bs,I.ok.bsz,I.ok.noex,I.ok.exfs,I.ok.funs,I.ok.frf⟩,I.os,I.bare,I.base,I.loc,I.cell,I.free,I.freeC,I.pin,I.hok,I.len⟩
theorem Inv.unsuite(ok:X.Ok)(I:Inv (X.suite e) pins σ H s):Inv X pins σ H s:=⟨ok,I.os,I.bare,I.base,I.loc,I.cell,I.free,I.freeC,I.pin,I.hok,I.len⟩
abbrev Cx.tryB(X:Cx)(pn:List (Addr×Obj))(xe:Value->Shared->Prop):Cx:={ X with pn:=pn,xe:=xe }
theorem Inv.tryB(I:Inv X pins σ H s)(xe:Value->Shared->Prop):Inv (X.tryB (X.pn++pins) xe) [] σ H s :=
 ⟨⟨I.ok.mod,I.ok.kind,I.ok.glob,I.ok.blt,I.ok.above,I.ok.inj,I.ok.has,I.ok.cab,I.ok.hd,I.ok.frames,I.ok.stk,I.ok.exf,I.ok.bs,I.ok.bsz,I.ok.noex,I.ok.exfs,I.ok.funs,I.ok.frf⟩,I.os,I.bare,I.base,I.loc,I.cell,I.free,I.freeC,λp hp=>I.pin p (by rw[Us] at hp;exact hp),I.hok,I.len⟩
theorem Inv.untryB{xe:Value->Shared->Prop}{pins':List (Addr×Obj)}(ok:X.Ok)(I:Inv (X.tryB (X.pn++pins) xe) pins' σ H s):Inv X pins σ H s :=
 ⟨ok,I.os,I.bare,I.base,I.loc,I.cell,I.free,I.freeC,λp hp=>I.pin p (List.mem_append_left _ hp),I.hok,I.len⟩
theorem Inv.drop{i:Nat}{n:Str}{h':Heap}{v:Option Value}{m:Str->Option Value}{t':Nat}(I:Inv X pins σ H s)(hN:X.N.Nodup)(hi:X.N[i]?=some n)(hm:s.heap.Ns X.env.locals m)
    (hl:∀(j:Nat) (x:Str) (u:V),X.N[j]?=some x->σ[j]?=some (some u)->Vis X.env.scope x->∃z,RelV u z/\Zrv X.env s.heap m x z)
    (hn:h'.Ns X.env.locals (λx=>if x=n then v else m x)) (sb:Heap.SameBut X.env.locals s.heap h'):Inv X pins (σ.set i none) H { s with heap:=h',toks:=t' }:=by
  have keep:∀b o,b≠X.env.locals->s.heap.get? b=some o->h'.get? b=some o:=λb o hb q=>sb.extBut b o hb q;have ne0:∀b o,X.s₀.heap.get? b=some o->b≠X.env.locals:=λb o q z=>by
    subst z;exact absurd (Q8 (Heap.lt_size q) I.ok.above) (Wd _)
  have nt:∀b u,H b=some u->b≠X.env.locals:=λb u q z=>by subst z; rw[I.free] at q; cases q
  have ib:=I.base;have hσ:i<σ.length:=by rw[I.len]; exact (Qo.mp hi).1
  refine ⟨I.ok,I.os,I.bare,⟨λb o q a c d=>keep b o (ne0 b o q) (ib.keep b o q a c d),λb o q a c d=>?_,ib.free,λb o q d=>?_,ib.tups,ib.frzs,ib.tbls⟩,⟨_,hn,λj x u a b c=>?_⟩,λx c q=>?_,I.free,I.freeC,λp hp=>?_,λb u q=>?_,?_⟩
  · obtain ⟨sl,z⟩:=ib.slot b o q a c d
    exact ⟨sl,keep b _ (ne0 b o q) z⟩
  · obtain ⟨o',z⟩:=ib.there b o q d
    exact ⟨o',keep b o' (ne0 b o q) z⟩
  · have hji:j≠i:=λz=>by
      subst z;rw[List.getElem?_set_self hσ] at b
      cases b
    rw[List.getElem?_set_ne (Ne.symm hji)] at b;obtain ⟨z,r,lk⟩:=hl j x u a b c;have hxn:x≠n:=λz=>by
      subst z;exact hji ((List.getElem?_inj (Qo.mp a).1 hN).mp (a.trans hi.symm))
    refine ⟨z,r,?_⟩;rcases lk with ⟨k1,k2⟩ | ⟨k1,cc,k2,oc,k3,k4⟩
    · exact .inl ⟨k1,by show (if x=n then v else m x)=some z; rw[if_neg hxn]; exact k2⟩
    · exact .inr ⟨k1,cc,k2,oc,keep _ _ (I.cne x cc k2) k3,k4⟩
  · obtain ⟨v0,oc,k3,k4⟩:=I.cell x c q
    exact ⟨v0,oc,keep _ _ (I.cne x c q) k3,k4⟩
  · obtain ⟨a,b,c,d,f⟩:=I.pin p hp
    exact ⟨keep _ _ c a,b,c,d,f⟩
  · exact (I.hok b u q).stay (λc w hc z=>keep c w (by rcases hc with rfl | hc; exact nt _ _ q; exact nt _ _ hc) z) (λ_ z=>z) λ_ _ z=>z
  · rw[W6]; exact I.len
theorem Zh9{prog:Program}{w:World}{A:Around}{E:Value->Shared->Prop}{K:ZZfg}{CE:Addr}{Q:Bool->Shared->Prop}{oe:Obj}(KX:K.In s.heap)(ht:PySem.W.typeIn K (.ref CE)=some (.type "type")) (hb:PySem.W.mroIn K CE (.type "BaseException")=some true)
    (hcl:(PySem.W.clsIn K CE).isSome=true) (hm:PySem.W.mroIn K C (.ref CE)=some true) (he:s.heap.get? e=some oe) (hc:oe.cls = .ref C) (h:Q true s):wpAny (model prog w) A (excMatches (.ref e) (.ref CE)) Q E s:=by
  obtain ⟨hh,g,d,tk,os⟩:=s;have L1:=PySem.W.looks_typeIn (M:=model prog w) KX ht;have L2:=PySem.W.looks_mroIn (M:=model prog w) KX hb;have L3:=PySem.W.looks_mroIn (M:=model prog w) KX hm;have L0:PySem.W.Looks (model prog w) hh (typeOf (.ref e)) (.ref C):=hc ▸ (PySem.W.Looks.ld he).andThen .now;have f:=tc_notTuple;have L4:PySem.W.Looks (model prog w) hh (isInstance (.ref CE) (.type "tuple")) false:=L1.andThen (PySem.W.Looks.of_pure f);have L5:PySem.W.Looks (model prog w) hh (isType (.ref CE)) true:=by
    obtain ⟨cd,z⟩:=Option.isSome_iff_exists.mp hcl;unfold PySem.W.clsIn at z
    split at z
    · rename_i c' d' cd' sl' ho
      intro A' Q' E' s' k q;unfold isType loadHead;exact wpAny_bind (wpAny_loadPart (k _ _ (KX _ _ ho)) (wpAny_pure q))
    · cases z
  unfold excMatches;refine wpAny_bind (m:=isInstance (.ref CE) (.type "tuple")) (L4.at ?_);refine wpAny_bind (m:=(pure [Value.ref CE]:Sem (List Value))) (wpAny_pure ?_);refine wpAny_bind ?_;rw[List.forIn_cons];refine wpAny_bind (wpAny_bind (m:=isExcClass (.ref CE)) ?_);unfold isExcClass;refine wpAny_bind (L5.at (L2.at ?_));refine wpAny_pure (wpAny_pure (a:=PUnit.unit) ?_);refine wpAny_bind (L0.at (wpAny_bind ?_));rw[List.forIn_cons];refine wpAny_bind (wpAny_bind (L3.at ?_));refine wpAny_pure (wpAny_pure (wpAny_pure h))
def Znx(K:ZZfg)(CE:Addr)(i:Nat)(ts:Addr->TS)(D:Ends):St->XK:=λσ1 cls dd H1=>∃C,cls = .ref C/\PySem.W.mroIn K C (.ref CE)=some true ∧
 ∀e,H1 e=none->ts e { nx:=λσ2 H2=>D.nx (σ2.set i none) H2,rt:=λ_ _=>False } (σ1.set i (some (.ref e))) (upd H1 e (Zot e C dd))
def Zsa(K:ZZfg)(CE:Addr)(i:Nat)(tb:(St->XK)->List (Addr×Obj)->(Value->Shared->Prop)->TS)(ts:Addr->TS):TS:=λD σ H=>∀pn xe,tb (Znx K CE i ts D) pn xe D σ H
structure CatC (K:ZZfg) (mg:ZZmg) (x:Str) (CE:Addr):Prop where
 mgx:mg x=some (.ref CE)
 ty:PySem.W.typeIn K (.ref CE)=some (.type "type")
 be:PySem.W.mroIn K CE (.type "BaseException")=some true
 cl:(PySem.W.clsIn K CE).isSome=true
theorem ZpG{body:List Stmt}{b₀:Stmt}{suite:List Stmt}{cx n:Str}{np hpos pos:Pos}{i:Nat}{CE:Addr}{tb:(St->XK)->List (Addr×Obj)->(Value->Shared->Prop)->TS}{ts:Addr->TS}(cE:CatC X.K X.mg cx CE)(hN:X.N.Nodup)(hi:X.N[i]?=some n)(hl:X.env.scope.names.lookup n=some .local)(hg:Gl X cx)
    (hb:∀(E:St->XK) (pn:List (Addr×Obj)) (xe:Value->Shared->Prop),ZhA (X.tryB pn xe) E->PSs (X.tryB pn xe) body (tb E pn xe)) (hs:∀e,PSs (X.suite e) (b₀::suite) (ts e))
    (hstk:X.stack=X.env::X.outer:=by rfl) (hf:X.env.frame=some X.env.locals:=by rfl) (hdb:(cx==("__debug__" : Str))=false:=by decide) :
    PS X (.Try body [.ExceptHandler (some (.Name cx np)) (some n) (b₀::suite) hpos] [] [] pos) (Zsa X.K CE i tb ts):=by
  intro pins s σ H D I h
  let EE:=Znx X.K CE i ts D
  let XE:Value->Shared->Prop:=λev s'=>∃σ1 H1 s1,Inv X pins σ1 H1 s1/\CXx X.prog X.w X.stack H1 s1 (EE σ1) ev s'
  have pass:ZhA (X.tryB (X.pn++pins) XE) EE:=λpins' σ1 H1 s1 ev s' I' h'=>⟨σ1,H1,s1,I'.untryB I.ok,h'⟩;have back:∀f s',SP (X.tryB (X.pn++pins) XE) [] D f s'->SP X pins D f s':=λf s' q=>by
    cases f with
    | next=>obtain ⟨σ',H',J,q⟩:=q; exact ⟨σ',H',J.untryB I.ok,q⟩
    | brk=>obtain ⟨σ',H',J,q⟩:=q; exact ⟨σ',H',J.untryB I.ok,q⟩
    | cont=>obtain ⟨σ',H',J,q⟩:=q; exact ⟨σ',H',J.untryB I.ok,q⟩
    | ret u=>obtain ⟨v,σ',H',J,r,q⟩:=q; exact ⟨v,σ',H',J.untryB I.ok,r,q⟩
  refine wpAny_Try_except (wpAny_mono (hb EE _ XE pass [] s σ H D (I.tryB XE) (h _ _)) (λf s1 q=>?_) λev s2 hx=>?_)
  · have q':=back f s1 q
    cases f with
    | next=>exact wpAny_execs_nil q'
    | brk=>exact q'
    | cont=>exact q'
    | ret u=>exact q'
  obtain ⟨σ1,H1,s1,I1,e,t,cls,dd,H2,B,rfl,os,bare,U,a,in1,in2,C,rfl,hm,k⟩:=hx;have hfr:=I.ok.frames;rw[hstk] at hfr;have a':Air X.prog X.w B (X.env::X.outer) H2 s2.heap e t (.ref C) dd .none:=by rw[<-hstk]; exact a
  refine a'.note hfr hf λh4 a4 u4=>?_;refine Air.off (s:={ s2 with heap:=h4 }) a4 λh5 a5 u5=>?_;have U5:=Zh8 U a.fr (u4.trans u5) a5.st in1 in2;have I5:Inv X pins σ1 H2 { s2 with heap:=h5 }:=I1.call' (ch:=[]) os U5 a5.hok bare λb z=>absurd z (by simp);refine wpAny_handleBy_cons (codeAny_handlers_test (Zdy (X:=X.suite e) (I5.suite e) hg cE.mgx ?_ hdb)) (by intro q; cases q);obtain ⟨oe,vs,T,oT,tvs,he5,hc5,_⟩:=id a5.tr;refine Zh9 (s:={ s2 with heap:=h5 }) I5.kIn cE.ty cE.be cE.cl hm he5 hc5 ?_;refine codeAny_handlers_suite_as (Air.off (s:={ s2 with heap:=h5 }) a5 λh6 a6 u6=>?_);have U6:=Zh8 U a.fr ((u4.trans u5).trans u6) a6.st in1 in2;have I6:Inv X pins σ1 H2 { s2 with heap:=h6 }:=I1.call' (ch:=[]) os U6 a6.hok bare λb z=>absurd z (by simp);obtain ⟨oe6,vs6,T6,oT6,tvs6,he6,hc6,hd6,hv6,_⟩:=id a6.tr;have ne1:s1.heap.get? e=none:=by
    cases q:s1.heap.get? e with
    | none=>rfl
    | some o =>
      by_cases hb:e∈frs X.stack
      · obtain ⟨_,o',z,nf⟩:=a6.fr.mem (by rw[hstk] at hb; exact hb)
        rw[he6] at z; cases z; exact absurd hv6 (nf _)
      · obtain ⟨o',z⟩:=in2 e o q hb
        rw[a.nb] at z; cases z
  have I7:=I6.track I1 ne1 a6.free he6 hc6 hd6 hv6;refine Zdh (X:=X) (v:=.ref e) I7 hN hi (.inl hl) rfl (λs8 I8=>?_) (.inr hl);refine wpAny_mono (hs e pins s8 _ _ _ (I8.suite e) (k e a6.free)) (λf s9 q=>?_) λ_ _ z=>False.elim z
  cases f with
  | brk=>obtain ⟨_,_,_,z⟩:=q; exact False.elim z
  | cont=>obtain ⟨_,_,_,z⟩:=q; exact False.elim z
  | ret u=>obtain ⟨_,_,_,_,_,z⟩:=q; exact False.elim z
  | next =>
    obtain ⟨σ9,H9,J,q⟩:=q;have I9:=J.unsuite I.ok;obtain ⟨m,hn,lk⟩:=id I9.loc;refine wpAny_nameGoes_keeps hl hn (by rw[I.ok.kind]; rfl) λh' v hn' sb=>?_;exact ⟨_,_,I9.drop hN hi hn lk hn' sb,q⟩
end
inductive TyX (K:ZZfg) (H:Hp):V->Value->Prop where
 |of {x:V} {t:Value} (h:Zi4 K H x t):TyX K H x t
 |exc {e C:Addr} (h:H e=some (Zot e C none)) (c:XCls K C):TyX K H (.ref e) (.ref C)
inductive ZqB (K:ZZfg) (H:Hp) (t:Value):V->Bool->Prop where
 |ty {T:String} {b:Bool} (h:PySem.W.kitOne K t (.type T)=some b):ZqB K H t (.ty T) b
 |ref {C:Addr} {b:Bool} (h:PySem.W.kitOne K t (.ref C)=some b):ZqB K H t (.ref C) b
 |tup {tp:Addr} {cs:ZZla} {b:Bool} (h:H tp=some (.tup (cs.map V.ref))) (q:PySem.W.kitAny K t (cs.map Value.ref)=some b):ZqB K H t (.ref tp) b
theorem ZhB:∀ {cs:ZZla} {us:List Value},Vals (cs.map V.ref) us->us=cs.map Value.ref
 | [],_,.nil=>rfl
 |_::_,_,.cons r t=>by cases (show _=Value.ref _ from r);rw[ZhB t];rfl
section
variable{X:Cx}
theorem Zaw:CallR X (.builtin "isinstance") (λxs H Q=>∃x c t b,xs=[x,c]/\TyX X.K H x t/\ZqB X.K H t c b/\Q (.bl b) H):=by
 intro pins s σ H xs us Q I r h;obtain ⟨x,c,t,b,rfl,ty,ask,q⟩:=h;obtain ⟨u,w',rfl,r1,r2⟩:=Zkr r;have fin:∀tk,EP X pins σ Q (.bool b) { s with toks:=tk }:=λtk=>⟨.bl b,H,I.tok _,rfl,q⟩;obtain ⟨G,Z,g,hb⟩:∃G:Heap->Prop,PySem.W.KitX X.K u t G/\G s.heap/\u ≠ .builtin "__main__.__loader__#opaque":= by
  cases ty with
  |exc he c =>
   rename_i e C
   cases (show u=Value.ref e from r1)
   obtain ⟨⟨oe,vs,a1,a2,a3,a4⟩,_,_⟩:=(show ObjOk X.prog X.w H s.heap e (Zot e C none) from I.hok e _ he);refine ⟨_,Zmp c,⟨oe,none,a1,a2,?_,?_⟩,λz=>nomatch z⟩
   ·unfold PySem.W.notCls;rw[a4]
   ·rw[a3];trivial
  |of ty =>
   cases ty with
   |non=>cases (show u=Value.none from r1);exact ⟨_,PySem.W.kitx_none,True.intro,λz=>nomatch z⟩
   |bl y=>cases (show u=Value.bool y from r1);exact ⟨_,PySem.W.kitx_bool,True.intro,λz=>nomatch z⟩
   |int i=>obtain ⟨t,q⟩:=(show ∃t,u=Value.int i t from r1);cases q;exact ⟨_,PySem.W.kitx_int,True.intro,λz=>nomatch z⟩
   |str y=>obtain ⟨t,q⟩:=(show ∃t,u=Value.str y t from r1);cases q;exact ⟨_,PySem.W.kitx_str,True.intro,λz=>nomatch z⟩
   |flt y=>obtain ⟨t,q⟩:=(show ∃t,u=Value.float y t from r1);cases q;exact ⟨_,PySem.W.kitx_float,True.intro,λz=>nomatch z⟩
   | @lst a xs ea =>
    cases (show u=Value.ref a from r1)
    obtain ⟨_,_,n,_,h1⟩:=(show ObjOk X.prog X.w H s.heap a (.lst xs) from I.hok a _ ea);exact ⟨_,PySem.W.kitx_list,⟨_,h1,rfl⟩,λz=>nomatch z⟩
   | @frz a ob xs ea =>
    cases (show u=Value.ref a from r1)
    obtain ⟨_,_,_,n,_,h1⟩:=(show ObjOk X.prog X.w H s.heap a (.frz ob (.lst xs)) from I.hok a _ ea);exact ⟨_,PySem.W.kitx_list,⟨_,h1,rfl⟩,λz=>nomatch z⟩
   | @tup a xs ea =>
    cases (show u=Value.ref a from r1)
    obtain ⟨_,_,_,p⟩:=(show ObjOk X.prog X.w H s.heap a (.tup xs) from I.hok a _ ea);obtain ⟨o,h1,h2,_⟩:=p;exact ⟨_,PySem.W.kitx_tuple,⟨o,h1,h2⟩,λz=>nomatch z⟩
   | @dK a kvs ea =>
    cases (show u=Value.ref a from r1)
    obtain ⟨_,_,vs,_,p⟩:=(show ObjOk X.prog X.w H s.heap a (.dK kvs) from I.hok a _ ea);obtain ⟨o,es,ep,h1,h2,_⟩:=p;exact ⟨_,PySem.W.kitx_dict,⟨o,h1,h2.1⟩,λz=>nomatch z⟩
   | @dT a kvs ea =>
    cases (show u=Value.ref a from r1)
    obtain ⟨_,_,xs,_,o,es,ep,h1,h2,_⟩:=(show ObjOk X.prog X.w H s.heap a (.dT kvs) from I.hok a _ ea);exact ⟨_,PySem.W.kitx_dict,⟨o,h1,h2.1⟩,λz=>nomatch z⟩
   | @ins a C dx fs ea cl ha hn htk hm =>
    cases (show u=Value.ref a from r1)
    obtain ⟨mA,O,_⟩:=Zfb I.hok ea;obtain ⟨od,J,_⟩:=O.look;exact ⟨_,PySem.W.kitx_own (cl.get _) cl.hd ha hn htk hm,J,λz=>nomatch z⟩
 cases ask with
 |ty k=>cases (show w'=Value.type _ from r2);exact PySem.W.kia_one Z I.kIn g k hb fin
 |ref k=>cases (show w'=Value.ref _ from r2);exact PySem.W.kia_one Z I.kIn g k hb fin
 | @tup tp cs b ht k =>
  cases (show w'=Value.ref tp from r2)
  obtain ⟨_,its,rv,o,h1,h2,n,h3⟩:=(show ObjOk X.prog X.w H s.heap tp (.tup (cs.map V.ref)) from I.hok tp _ ht);obtain ⟨oc,od,odt,osl⟩:=o
  dsimp only at h2 h3
  subst h2 h3;exact PySem.W.kia_tup Z I.kIn g h1 (by rw[ZhB rv];exact k) hb fin
end
theorem Zou{K:ZZfg}{C D:Addr}{b:Bool}(hc:(PySem.W.clsIn K D).isSome=true)(ht:PySem.W.typeIn K (.ref D)=some (.type "type")) (hm:PySem.W.mroIn K C (.ref D)=some b) (hne:C≠D):PySem.W.kitOne K (.ref C) (.ref D)=some b:=by
 unfold PySem.W.kitOne PySem.W.kitCls;rw[if_neg (λz=>hne (Value.ref.inj (beq_iff_eq.mp z)))];show (if ((PySem.W.clsIn K D).isSome&&PySem.W.typeIn K (.ref D)==some (.type "type"))=true then PySem.W.subIn K (.ref C) (.ref D) else none)=some b;rw[hc,ht];exact hm
theorem Zmr{K:ZZfg}{C:Addr}:PySem.W.kitOne K (.ref C) (.ref C)=some true:=by
 unfold PySem.W.kitOne;rw[if_pos (beq_iff_eq.mpr rfl)]
theorem Zov{K:ZZfg}{C:Addr}{T:String}{b:Bool}(h1:PySem.W.kitMeta T=true)(hm:PySem.W.mroIn K C (.type T)=some b):PySem.W.kitOne K (.ref C) (.type T)=some b:=by
 unfold PySem.W.kitOne PySem.W.kitCls;rw[if_neg (λz=>nomatch (beq_iff_eq.mp z:Value.ref C=Value.type T))];show (if PySem.W.kitMeta T=true then PySem.W.subIn K (.ref C) (.type T) else none)=some b;rw[if_pos h1];exact hm
theorem Zq0(K:ZZfg){C:Addr}(hm:PySem.W.mroIn K C (.type "ValueError")=some true):PySem.W.kitOne K (.ref C) (.type "ValueError")=some true:=Zov ‹4› hm
structure FunD (K:ZZfg) (x qual:Str) (st:Stmt) (f:Addr) (fd:FuncData) (T:Addr) (items:Array Value):Prop where
 ex:∃(oc:Value) (od:Option Addr) (kV doc pm:Value) (an:Option Addr) (cdv ct:Value) (osl:Array (Option Value)),
  fd=PySem.W.fnOf x qual (Zbs st) (Za7 st) (Zah st) (.ref T) kV doc pm an cdv ct/\K.lookup f=some ⟨oc,od,.func fd,osl⟩/\PySem.W.codeIn K cdv qual=true
 tp:∃(tc:Value) (td:Option Addr) (n:Nat) (tsl:Array (Option Value)),K.lookup T=some ⟨tc,td,.seq items n,tsl⟩
 kp:PySem.W.keepIn K (.ref f)=true
section
variable{P:Program}{w:World}{K:ZZfg}{mg:ZZmg}{base:Heap}{x qual m:Str}{st:Stmt}{f C T:Addr}{fd:FuncData}{items:Array Value}{N ps:List Str}{k:Nat}{sp:Sp}{ds:List Value}{dvs:List V}
theorem FunD.okx(F:FunD K x qual st f fd T items)(S:FnScope N ps (Zah st))(len:∀vs H Q E,sp vs H Q E->vs.length=ps.length)
    (hbody:∀(cdv:Value) (A:Around) (outer:List Env) (s:Shared) (H:Hp) (vs:List V) (Q:VK) (E:XK),Room k (A.deeper (envOfC qual (Zah st) s.heap.objs.size f cdv))->sp vs H Q E →
      ∃t,PSs (cxX P w K mg base N qual (Zah st) f cdv A outer s H E) (Za7 st) t/\t { nx:=λ_ H'=>Q .non H',rt:=Q } (start N vs) H):FnOk P w K mg base (CXx P w) (k+1) f fd ps sp:=by
  obtain ⟨oc,od,kV,doc,pm,an,cdv,ct,osl,rfl,lk,hcd⟩:=F.ex;exact Zof lk hcd S len λA outer s H vs Q E hr hsp=>hbody cdv A outer s H vs Q E hr hsp
theorem FunD.binds(F:FunD K x qual st f fd T items)(h:∀ (kV doc pm:Value) (an:Option Addr) (cdv ct:Value) (us:List Value),(us ++ ds).length = ps.length →
      ∃g:Option (Array Value)->Sem (List (Str×Value)),bindArgs (PySem.W.fnOf x qual (Zbs st) (Za7 st) (Zah st) (.ref T) kV doc pm an cdv ct) ⟨us,[]⟩=seqItems? (.ref T) >>= g/\g (some items)=pure (ps.zip (us++ds))):Binds K fd ps ds:=by
  obtain ⟨oc,od,kV,doc,pm,an,cdv,ct,osl,rfl,lk,hcd⟩:=F.ex;obtain ⟨tc,td,n,tsl,lt⟩:=F.tp;intro s us KX hl;obtain ⟨g,h1,h2⟩:=h kV doc pm an cdv ct us hl;exact .of_defaults rfl (KX _ _ lt) rfl h1 h2
structure HereD (K:ZZfg) (C:Addr) (m qual:Str) (st:Stmt) (items:Array Value):Prop where
 ex:∃(f:Addr) (fd:FuncData) (T:Addr),FunD K m qual st f fd T items/\Meth K C m f
theorem HereD.hasM(h:HereD K C m qual st items)(hv:Vals dvs ds)(b:∀f fd T,FunD K m qual st f fd T items->Binds K fd ps ds)(ok:∀f fd T,FunD K m qual st f fd T items->FnOk P w K mg base CX0 k f fd ps sp):HasM P w K mg base C m k ps dvs sp :=
 let ⟨f,fd,T,F,M⟩:=h.ex
 ⟨f,fd,ds,ok f fd T F,M,b f fd T F,hv⟩
theorem HereD.hasMX(h:HereD K C m qual st items)(hv:Vals dvs ds)(b:∀f fd T,FunD K m qual st f fd T items->Binds K fd ps ds)(ok:∀f fd T,FunD K m qual st f fd T items->FnOk P w K mg base (CXx P w) k f fd ps sp):HasMX P w K mg base C m k ps dvs sp :=
 let ⟨f,fd,T,F,M⟩:=h.ex
 ⟨f,fd,ds,ok f fd T F,M,b f fd T F,hv⟩
theorem hereD_mk{oc:Value}{od an:Option Addr}{osl:Array (Option Value)}{kV doc pm cdv ct tc:Value}{td:Option Addr}{n:Nat}{tsl:Array (Option Value)}(a:PySem.W.findIn K (.ref C) m=some (some (.ref f)))(i:PySem.W.isFn K (.ref f)=true)
    (l:K.lookup f=some ⟨oc,od,.func (PySem.W.fnOf m qual (Zbs st) (Za7 st) (Zah st) (.ref T) kV doc pm an cdv ct),osl⟩) (lt:K.lookup T=some ⟨tc,td,.seq items n,tsl⟩)
    (c:PySem.W.codeIn K cdv qual=true) (k:PySem.W.keepIn K (.ref f)=true):HereD K C m qual st items:=⟨f,_,T,⟨⟨oc,od,kV,doc,pm,an,cdv,ct,osl,rfl,l,c⟩,⟨tc,td,n,tsl,lt⟩,k⟩,a,i,k⟩
end
theorem ZjP{us:List Value}(h:us.length=1):∃a,us=[a]:=match us,h with| [a],_=>⟨a,rfl⟩
theorem Zed{us:List Value}(h:us.length=2):∃a b,us=[a,b]:=match us,h with| [a,b],_=>⟨a,b,rfl⟩
theorem Zdm{us:List Value}(h:us.length=3):∃a b c,us=[a,b,c]:=match us,h with| [a,b,c],_=>⟨a,b,c,rfl⟩
theorem Zny{us:List Value}(h:us.length=4):∃a b c d,us=[a,b,c,d]:=match us,h with| [a,b,c,d],_=>⟨a,b,c,d,rfl⟩
section
variable{K:ZZfg}{x qual:Str}{st:Stmt}{f:Addr}{fd:FuncData}{p q r s:Str}
theorem Fun.b1(F:Fun K x qual st f fd)(h:∀(kV doc pm:Value) (an:Option Addr) (cdv ct a:Value),bindArgs (PySem.W.fnOf x qual (Zbs st) (Za7 st) (Zah st) .none kV doc pm an cdv ct) ⟨[a],[]⟩=pure ([p].zip [a])):Binds K fd [p] []:=F.binds λ_ _ _ _ _ _ us hl=>by obtain ⟨_,rfl⟩:=ZjP hl;exact h _ _ _ _ _ _ _
theorem Fun.b2(F:Fun K x qual st f fd)(h:∀(kV doc pm:Value) (an:Option Addr) (cdv ct a b:Value),bindArgs (PySem.W.fnOf x qual (Zbs st) (Za7 st) (Zah st) .none kV doc pm an cdv ct) ⟨[a,b],[]⟩=pure ([p,q].zip [a,b])):Binds K fd [p,q] []:=F.binds λ_ _ _ _ _ _ us hl=>by obtain ⟨_,_,rfl⟩:=Zed hl;exact h _ _ _ _ _ _ _ _
theorem Fun.b3(F:Fun K x qual st f fd)(h:∀(kV doc pm:Value) (an:Option Addr) (cdv ct a b c:Value),bindArgs (PySem.W.fnOf x qual (Zbs st) (Za7 st) (Zah st) .none kV doc pm an cdv ct) ⟨[a,b,c],[]⟩=pure ([p,q,r].zip [a,b,c])):Binds K fd [p,q,r] []:=F.binds λ_ _ _ _ _ _ us hl=>by obtain ⟨_,_,_,rfl⟩:=Zdm hl;exact h _ _ _ _ _ _ _ _ _
theorem Fun.b4(F:Fun K x qual st f fd)(h:∀(kV doc pm:Value) (an:Option Addr) (cdv ct a b c d:Value),bindArgs (PySem.W.fnOf x qual (Zbs st) (Za7 st) (Zah st) .none kV doc pm an cdv ct) ⟨[a,b,c,d],[]⟩=pure ([p,q,r,s].zip [a,b,c,d])):Binds K fd [p,q,r,s] []:=F.binds λ_ _ _ _ _ _ us hl=>by obtain ⟨_,_,_,_,rfl⟩:=Zny hl;exact h _ _ _ _ _ _ _ _ _ _
end
section
variable{X:Cx}{pins:List (Addr×Obj)}{σ:St}{H:Hp}{s:Shared}{h':Heap}{fp:ZZla}{t':Nat}
theorem Inv.multi(I:Inv X pins σ H s)(hf:∀b∈fp,Zkl X pins H b)(k:∀c o,c∉fp->s.heap.get? c=some o->h'.get? c=some o):Inv X pins σ H { s with heap:=h',toks:=t' }:=by
 refine I.call (ch:=fp) ⟨λb o q n hb hx=>k b o hx q,λb o q n hb hx=>⟨o.slots,k b o hx q⟩,λb o q n hx=>n,λb o q hx=>⟨o,k b o hx q⟩,λ_ _ q=>q,λ_ _ _ q=>q,λb ps q=>⟨#[],by rw[q];simp⟩⟩ (λb u q=>?_) I.bare λb hb=>?_
 ·refine (I.hok b u q).stay (λc v hc z=>k c v (λm=>?_) z) (λ_ z=>z) λ_ _ z=>z;rcases hc with rfl|hc
  ·rw[(hf c m).1] at q;cases q
  ·rw[(hf c m).1] at hc;cases hc
 ·obtain ⟨_,a,_,b,c,d⟩:=hf b hb;exact ⟨b,a,c,d⟩
theorem Inv.multiT{T:Addr}{xs:List V}{its:List Value}(I:Inv X pins σ H s)(hf:∀b∈fp,Zkl X pins H b)(k:∀c o,c∉fp->s.heap.get? c=some o->h'.get? c=some o)(hT:s.heap.objs.size<=T)(ht:IsTup h' T its.toArray)(r:Vals xs its)(hz:xs.length<=sizeLine) :
    Inv X pins σ (upd H T (.tup xs)) { s with heap:=h',toks:=t' }:=by
  have nT:=I.hok.fresh hT;have nx:∀b u,H b=some u->b≠T:=λb u q z=>by subst z; rw[nT] at q; cases q
  refine I.call (ch:=fp) ⟨λb o q n hb hx=>k b o hx q,λb o q n hb hx=>⟨o.slots,k b o hx q⟩,λb o q n hx=>?_,λb o q hx=>⟨o,k b o hx q⟩,λb _ q=>by rw[Zau (nx b _ q)]; exact q,λb _ _ q=>by rw[Zau (nx b _ q)]; exact q,λb ps q=>⟨#[],by rw[Zau (nx b _ q),q]; simp⟩⟩ (λb u q=>?_) I.bare λb hb=>?_
  · rw[Zau (Qi (Q8 (Heap.lt_size q) hT))]; exact n
  · by_cases hb:b=T
    · subst hb
      rw[Zaf] at q
      cases q
      exact ⟨hz,its,r,ht⟩
    · rw[Zau hb] at q
      refine (I.hok b u q).stay (λc v hc z=>k c v (λm=>?_) z) (λc z=>by rw[Zau (nx c _ z)]; exact z) λc _ z=>by rw[Zau (nx c _ z)]; exact z
      rcases hc with rfl | hc
      · rw[(hf c m).1] at q; cases q
      · rw[(hf c m).1] at hc; cases hc
  · obtain ⟨_,a,_,b,c,d⟩:=hf b hb
    exact ⟨b,a,c,d⟩
end
def Itz(K:ZZfg)(a b:Addr):It :=
  ⟨λi H=>∃xs ys x y,SqL K H a xs/\SqL K H b ys/\xs[i]?=some x/\ys[i]?=some y,
   λi H v H'=>∃T,H T=none/\v = .ref T/\∃x y,(∀xs,SqL K H a xs->xs[i]?=some x)/\(∀ys,SqL K H b ys->ys[i]?=some y)/\H'=upd H T (.tup [x,y]),
   λi H=>∃xs ys,SqL K H a xs/\SqL K H b ys/\(xs.length<=i\/ys.length<=i)⟩
theorem Zms{P:Program}{w:World}{K:ZZfg}{elts:List Expr}{k0}{pos:Pos}{a b z TI TO i1 i2:Addr}(D:ZipApart z TI TO i1 i2 a b) :
    Turn P w K (.Tuple elts k0 pos) (Itz K a b) [z,TI,TO,i1,i2] z (λi h=>IsZip h z TI TO .none/\IsPair h TI (.ref i1) (.ref i2)/\(∃p q,IsPair h TO p q)/\h.IsListIter i1 a i/\h.IsListIter i2 b i) where
  mem:=by simp
  obj:=λi h ⟨hz,hTI,⟨p,q,hTO⟩,⟨o1,e1,_,d1⟩,⟨o2,e2,_,d2⟩⟩ c hc=>by
    simp only[Qe,Uk,or_false] at hc
    rcases hc with rfl | rfl | rfl | rfl | rfl
    · exact ⟨_,hz,λv e=>nomatch (show Data.fields _=Data.cell v from e)⟩
    · exact ⟨_,hTI,λv e=>nomatch (show Data.seq _ _=Data.cell v from e)⟩
    · exact ⟨_,hTO,λv e=>nomatch (show Data.seq _ _=Data.cell v from e)⟩
    · exact ⟨o1,e1,λv e=>by rw[d1] at e; cases e⟩
    · exact ⟨o2,e2,λv e=>by rw[d2] at e; cases e⟩
  keep:=λi h h' ⟨hz,hTI,⟨p,q,hTO⟩,h1,h2⟩ k =>
    ⟨k z (by simp) _ hz,k TI (by simp) _ hTI,⟨p,q,k TO (by simp) _ hTO⟩,h1.at λo e=>k i1 (by simp) o e,h2.at λo e=>k i2 (by simp) o e⟩
  item:=by
    intro X hP hw hK hc i pins s σ H E I hf ⟨hz,hTI,⟨p,q,hTO⟩,h1,h2⟩ hg;subst hP hw hK;obtain ⟨xs,ys,x,y,hq1,hq2,hx,hy⟩:=hg;obtain ⟨its,rv,pl,_⟩:=I.list hq1;obtain ⟨jts,rw',pl2,_⟩:=I.list hq2;obtain ⟨u,hu,ru⟩:=rv.get hx;obtain ⟨v,hv,rw2⟩:=rw'.get hy;refine wpAny_pyNext_zip_item D hz hTI hTO h1 h2 pl.isList pl2.isList (x:=u) (y:=v) (by simpa using hu) (by simpa using hv) λh' a1 a2 a3 a4 a5 a6 a7=>?_;refine ⟨_,rfl,wpAny_letOwnedTupleGo_zip (s:={ s with heap:=h' }) a1 λh2' b1 b2=>?_⟩;have kz:∀c o,c∉[z,TI,TO,i1,i2]->s.heap.get? c=some o->h2'.get? c=some o:=λc o hc e=>by
      simp only[Qe,Uk,or_false,not_or] at hc
      obtain ⟨n1,n2,n3,n4,n5⟩:=hc;exact b2.extBut _ _ n1 (a7 c o n1 n3 n4 n5 e)
    have nTz:s.heap.objs.size≠z:=Nat.ne_of_gt (Heap.lt_size hz);have fresh:=I.hok.fresh (Q3 s.heap.objs.size);have I2:Inv X pins σ (upd H s.heap.objs.size (.tup [x,y])) { s with heap:=h2' }:=I.multiT (t':=s.toks) (its:=[u,v]) hf kz (Q3 _) ⟨_,b2.extBut _ _ nTz a5,rfl,_,rfl⟩ (.cons ru (.cons rw2 .nil)) (by show 2<=sizeLine; decide);refine ⟨.ref s.heap.objs.size,_,I2,rfl,⟨_,fresh,rfl,x,y,λxs' e=>by rw[I.list_inj e hq1]; exact hx,λys' e=>by rw[I.list_inj e hq2]; exact hy,rfl⟩,⟨b1,?_,⟨u,v,?_⟩,a3.extBut b2.extBut D.i1z,a4.extBut b2.extBut D.i2z⟩,λc hc=>?_⟩
    · exact b2.extBut _ _ D.TIz (a7 _ _ D.TIz D.TITO D.TIi1 D.TIi2 hTI)
    · exact b2.extBut _ _ D.TOz a2
    · have lt:c<s.heap.objs.size:=by
        simp only[Qe,Uk,or_false] at hc
        obtain ⟨_,e1,_⟩:=id h1;obtain ⟨_,e2,_⟩:=id h2;rcases hc with rfl | rfl | rfl | rfl | rfl
        · exact Heap.lt_size hz
        · exact Heap.lt_size hTI
        · exact Heap.lt_size hTO
        · exact Heap.lt_size e1
        · exact Heap.lt_size e2
      rw[Zau (Qi lt)];exact (hf c hc).1
  done:=by
    intro X hP hw hK hc i pins s σ H E I hf ⟨hz,hTI,⟨p,q,hTO⟩,h1,h2⟩ hg;subst hP hw hK;obtain ⟨xs,ys,hq1,hq2,hx⟩:=hg;obtain ⟨its,rv,pl,_⟩:=I.list hq1;obtain ⟨jts,rw',pl2,_⟩:=I.list hq2;have l1:=rv.length;have l2:=rw'.length;refine wpAny_pyNext_zip_end (I.ok.hd hc) D hz hTI hTO h1 h2 pl.isList pl2.isList ?_ λh' k=>⟨rfl,I.multi (t':=s.toks) hf λc o hc e=>?_⟩
    · rcases hx with hx | hx
      · left; simp; omega
      · right; simp; omega
    · simp only[Qe,Uk,or_false,not_or] at hc
      obtain ⟨n1,n2,n3,n4,n5⟩:=hc;exact k c o n1 n3 n4 n5 e
  self:=λ_ _ _ _ _ ⟨hz,_⟩ h=>wpAny_pyIter_zip hz h
section
variable{X:Cx}
inductive ZpH (K:ZZfg) (vs:List V) (H1:Hp) (R:It->Hp->Prop):Prop
 |mk (a b:Addr) (_:vs=[.ref a,.ref b]) (_:∃xs,SqL K H1 a xs) (_:∃ys,SqL K H1 b ys) (_:R (Itz K a b) H1):ZpH K vs H1 R
def Zsb(K:ZZfg)(ta:TA):TI:=λσ H R=>ta σ H λvs H1=>ZpH K vs H1 R
theorem ZhC{e1 e2:Expr}{elts:List Expr}{k0}{tpos:Pos}{ta:TA}{p pos:Pos}(hg:Gl X "zip") (hm:X.mg "zip" = none) (ha:PA X [e1,e2] ta) (hs:starEach [e1,e2] X.env=[(false,eval e1 X.env),(false,eval e2 X.env)]:=by rfl) (hs2:starEach [e2] X.env=[(false,eval e2 X.env)]:=by rfl) :
    PI X (.Tuple elts k0 tpos) (.Call (.Name "zip" p) [e1,e2] [] pos) (Zsb X.K ta):=by
  intro pins s σ H R I h;refine wpAny_Call_Name_kw (Zdu I hg hm PyProof.Rows.Boot.«zip» (PyProof.Rows.callWith_type1 (thn (ha pos pins s σ H _ I h) λus s1 ⟨vs,H1,I1,r1,q1⟩=>?_) (by rw[hs,hs2]) (by rw[hs2]; rfl)));obtain ⟨a,b,e,⟨xs,hq1⟩,⟨ys,hq2⟩,q⟩:=q1;subst e;obtain ⟨u,v,rfl,ru,rv⟩:=Zkr r1
  cases (show u=Value.ref a from ru)
  cases (show v=Value.ref b from rv)
  obtain ⟨its,_,pl,_⟩:=I1.list hq1;obtain ⟨jts,_,pl2,_⟩:=I1.list hq2;have la:a<s1.heap.objs.size:=by obtain ⟨o,e,_⟩:=pl.isList; exact Heap.lt_size e
  have lb:b<s1.heap.objs.size:=by obtain ⟨o,e,_⟩:=pl2.isList; exact Heap.lt_size e
  refine call_zip_2 pl.isList pl2.isList λh' hz hTI hTO h1 h2 hsz k=>?_;refine wpAny_pyIter_zip (s:={ s1 with heap:=h' }) hz ?_;refine ⟨_,[s1.heap.objs.size+4,s1.heap.objs.size+2,s1.heap.objs.size+3,s1.heap.objs.size,s1.heap.objs.size+1],_,_,H1,rfl,I1.kept (t':=s1.toks) k,Zms (zipApart_new la lb),⟨hz,hTI,⟨_,_,hTO⟩,h1,h2⟩,λc hc=>?_,q⟩;have hc':s1.heap.objs.size<=c:=by
    simp only[Qe,Uk,or_false] at hc
    rcases hc with rfl | rfl | rfl | rfl | rfl <;> omega
  exact I1.fpOk hc' (I1.hok.fresh hc')
end
theorem ZkU{K:ZZfg}{a b:Addr}{xs ys:List V}{g:TG}{tb:TS}{D:Ends}{σ:St}{H:Hp}(Pv:Nat->St->Hp->Prop)(h0:Pv 0 σ H)(hl:∀i σ H,Pv i σ H->SqL K H a xs/\SqL K H b ys)
    (hs:∀i x y T σ H,xs[i]?=some x->ys[i]?=some y->H T=none->Pv i σ H->g (.ref T) σ (upd H T (.tup [x,y])) λσ2 H2=>tb { D with nx:=Pv (i+1),ct:=Pv (i+1),bk:=D.nx } σ2 H2) (hd:∀i σ H,i=min xs.length ys.length->Pv i σ H->D.nx σ H) :
    ∃W:Nat->Nat->St->Hp->Prop,(∃m,W 0 m σ H)/\∀i m σ H,W i m σ H →
      ((Itz K a b).stop i H/\D.nx σ H)\/((Itz K a b).go i H/\∃N:St->Hp->Prop,(∀σ' H',N σ' H'->∃m',m'<m/\W (i+1) m' σ' H')/\∀x H',(Itz K a b).yld i H x H'->g x σ H' λσ2 H2=>tb { D with nx:=N,ct:=N,bk:=D.nx } σ2 H2):=by
  refine ⟨λi m σ H=>m=min xs.length ys.length-i/\i<=min xs.length ys.length/\Pv i σ H,⟨_,rfl,Qf _,h0⟩,?_⟩;rintro i m σ H ⟨rfl,hi,p⟩;obtain ⟨q1,q2⟩:=hl i σ H p
  by_cases hlt:i<min xs.length ys.length
  · have l1:i<xs.length:=⋯
    have l2:i<ys.length:=⋯;refine .inr ⟨⟨xs,ys,xs[i],ys[i],q1,q2,by simp[l1],by simp[l2]⟩,Pv (i+1),λσ' H' p'=>⟨min xs.length ys.length-(i+1),⋯,rfl,hlt,p'⟩,λx H' y=>?_⟩;obtain ⟨T,nT,rfl,u,v,e1,e2,rfl⟩:=y;exact hs i u v T σ H (e1 xs q1) (e2 ys q2) nT p
  · exact .inl ⟨⟨xs,ys,q1,q2,⋯⟩,hd i σ H ⋯ p⟩
section
variable{caps:List (Nat×Str)}{te:TE}
theorem Zq1{x y:V}{cs:List (Option V)}:∀(i:Nat) v,((none:Option V)::none::cs)[i]?=some (some v)->((some x)::(some y)::cs)[i]?=some (some v)
 |0,v,h=>by simp at h
 |1,v,h=>by simp at h
 |i+2,v,h=>by simpa using h
end
theorem Zch(n:Nat):(List.range n).all (λ_=>true)=true:=by simp
def Bits(n:Nat)(i:Int):Prop:=Builtin.Int.intBits i<=n
theorem Zia(i:Int):(PySem.W.WData.int i).weight=Builtin.Int.intBits i:=by
 simp only[PySem.W.WData.weight,Builtin.Int.intBits]
theorem Zge:∀(ns:List Int) (n:Nat),PySem.W.WData.weightAll (ns.map PySem.W.WData.int)<=n->∀i∈ns,Bits n i
 | [],_,_,_,h=>nomatch h
 |j::ns,n,hw,i,h=>by
  simp only[Ur,PySem.W.WData.weightAll] at hw
  rcases Qe.mp h with rfl|h
  ·show Builtin.Int.intBits i<=n;rw[<-Zia];omega
  ·exact Zge ns n ⋯ i h
theorem ZhD{l:PySem.W.OpenLaw}{n:Nat}{q:Program}{loose:List Str}{XP:(Str->Option Value)->Heap->Prop}{YP:World->Heap->Prop}{d:DefRec}
    (hn:l.most=some n) (hdf:d.params.defaults=[])
    (call:∀(w:World) (s₀ s₁:Shared) (mg mb:Str->Option Value) (fa:Addr) (a:Addr) (vs:List Value) (ns:List Int),
      PySem.W.Ground q loose [] XP w s₀ mg mb s₁.heap->YP w s₁.heap->mg d.name=some (.ref fa) →
      s₁.heap.get? a=some { cls:=.type "list", data:=.seq vs.toArray }->IntsAre vs ns->ns.length<=n->(∀i∈ns,Bits 1048576 i)->s₁.gens=#[] →
      codeAny (model l.prog w) callerA (.call (.ref fa) ⟨[.ref a],[]⟩) (λr s'=>r = .ok (.ret (.bool true))/\OldK s₁.heap s'.heap/\s'.os=s₁.os/\AllBare s'.gens) s₁) :
    PySem.W.WalkO q loose XP YP l.row.toRowW d [] (λf vs=>PySem.call f vs):=by
  refine λw s₀ s₁ mg mb G Y fa o pm cd doc dV kV ho hd hcd hD hmg hg args vals as hpre hlay hrd hwl hlo=>?_;have hb:∀(a:Addr) (vs:List Value) (ns:List Int),vals=[Value.ref a]->args=[PySem.W.WData.list (ns.map PySem.W.WData.int)]->∀i∈ns,Bits 1048576 i:=by
    rintro a vs ns-rfl;refine Zge ns _ ?_;have h1:(PySem.W.WData.list (ns.map PySem.W.WData.int)).layable=true:=(PySem.W.layW_cons hlay).1;unfold PySem.W.WData.layable at h1
    simp only[Bool.and_eq_true,decide_eq_true_eq] at h1
    have:=h1.2
    simp only[PySem.W.WData.weight] at this
    exact this
  obtain rfl:dV = .none:=PySem.W.Dflts.none hD hdf;obtain rfl:kV = .none:=PySem.W.Dflts.noKw hD;obtain ⟨a,vs,ns,rfl,rfl,hobj,hints,hlen⟩:=Att.script_of hn hpre hwl;refine PySem.W.enter_call (codeAny_mono (call w s₀ s₁ mg mb fa a vs ns G Y hmg hobj hints hlen (hb a vs ns rfl rfl) hg) λr s' hq=>?_);obtain ⟨rfl,h2,h3,h4⟩:=hq;exact ⟨.inl ⟨.bool true,.bool true,[],rfl,λ_=>rfl,.bool true,Att.post_true l _,λ_=>⟨List.Pairwise.nil,λ_ hm=>(nomatch hm)⟩⟩,h2,h3,h4⟩
theorem walk_ofB{l:PySem.W.OpenLaw}{n k:Nat}{q:Program}{loose:List Str}{XP:(Str->Option Value)->Heap->Prop}{YP:World->Heap->Prop}{d:DefRec}{K:Params->ZZfg}{CX:World->CXT}{sp:World->Sp}{x:Str}
    (hn:l.most=some n) (hn2:n<=sizeLine) (hdf:d.params.defaults=[]) (hr:Room k callerA)
    (hY:∀(w:World) (h:Heap),YP w h->(K w.params).In h)
    (F:∀(w:World) (mg:ZZmg) (fa:Addr) (h:Heap),(K w.params).In h->h.Ns mainGlobals mg->mg d.name=some (.ref fa) →
      ∃fd:FuncData,(∀(s:Shared) (u:Value),BindsTo s fd ⟨[u],[]⟩ [(x,u)]) ∧
        ∀base:Heap,(K w.params).In base->base.Ns mainGlobals mg->FnOk l.prog w (K w.params) mg base (CX w) k fa fd [x] (sp w))
    (hsp:∀(w:World) (H:Hp) (a:Addr) (ns:List Int),ns.length<=n->(∀i∈ns,Bits 1048576 i)->ZqA H->SqL (K w.params) H a (ns.map V.int)->sp w [.ref a] H (λv _=>v = .bl true) λ_ _ _=>False)
    (hCX:∀(w:World) (H:Hp) (s:Shared) (e:Value) (s':Shared),CX w [] H s (λ_ _ _=>False) e s'->False) :
    PySem.W.WalkO q loose XP YP l.row.toRowW d [] (λf vs=>PySem.call f vs):=by
  refine ZhD hn hdf λw s₀ s₁ mg mb fa a vs ns G Y hmg hobj hints hlen hbits hg=>?_;have KX:=hY w _ Y;obtain ⟨fd,hb,hF⟩:=F w mg fa _ KX G.T.g hmg;exact Zi6 KX G.T.g G.T.b G.T.builtins G.T.nolimit hg hobj hints (Q0 hlen hn2) hr hF hb (λH hO hS=>hsp w H a ns hlen hbits hO hS) λH e s'=>hCX w H s₁ e s'
theorem Bits.lt{n:Nat}{i:Int}(h:Bits n i):i.natAbs<2^n:=by
 unfold Bits Builtin.Int.intBits at h
 by_cases h0:i=0
 ·subst h0;exact Ut (by simp)
 ·have:i.natAbs.log2+1<=n:=by simpa [h0] using h
  exact (Nat.log2_lt ⋯).mp ⋯
theorem Bits.of{n:Nat}{i:Int}(h:i.natAbs<2^n):Bits n i:=ZdA h
theorem Bits.cell{n:Nat}{c k:Int}(h:Bits n c)(h0:0<=k)(h1:k<256):Bits (n+17) (c*(k+2)+k*k):=by
 refine Bits.of ?_;have hc:=h.lt;have e1:(c*(k+2)).natAbs<=c.natAbs*258:=by
  rw[Qr];exact Qk _ ⋯
 have e2:(k*k).natAbs<=256*256:=by
  rw[Qr];exact Qm ⋯ ⋯
 have e3:2^(n+17)=2^n*131072:=by rw[Wp]
 have e4:1<=2^n:=Ut (by simp);rw[e3];generalize 2^n=P at *;omega
theorem Bits.mul{i j:Int}(h:Bits 2097152 i)(h':Bits 2097152 j):IntMulOk i j:=by
 have h1:Builtin.Int.intBits i<=2097152:=h;have h2:Builtin.Int.intBits j<=2097152:=h';have h3:Builtin.Int.intTooBig (Builtin.Int.intBits i+Builtin.Int.intBits j)=false:=by
  unfold Builtin.Int.intTooBig;rw[bitsLine_eq];exact decide_eq_false ⋯
 unfold IntMulOk;rw[h3]
 simp
section
variable{X:Cx}
theorem Zdn(K:ZZfg)(h:X.K=K):IxR X (ZqV K):=by subst h;exact Zap
theorem ZdW(K:ZZfg)(h:X.K=K):CallR X (.type "list") (λxs H Q=>∃p ys,xs=[.ref p]/\(SqL K H p ys\/SqT K H p ys)/\∀l,H l=none->Q (.ref l) (upd H l (.lst ys))):=by subst h;exact Zb7
structure CxIs (X:Cx) (P:Program) (w:World) (K:ZZfg) (mg:ZZmg) (base:Heap):Prop where
 p:X.prog=P
 w:X.w=w
 k:X.K=K
 m:X.mg=mg
 b:X.base=base
variable{o e:Expr}{es:List Expr}{m:Str}{apos pos:Pos}{ta:TE}{t:TA}{k:Nat}{E:St->XK}
theorem ZhE{pl:Sem Bool}{P:Program}{w:World}{K:ZZfg}{mg:ZZmg}{base:Heap}(hX:CxIs X P w K mg base)(he:PE X o ta)(hx:ZhA X E)(hr:Room k X.A)(ha:PA X (e::es) t)
    (hst:starEach (e::es) X.env=(false,eval e X.env)::starEach es X.env:=by rfl) (hpl:(backTo pos (starEach es X.env)).any (·.1)=false:=by rfl)
    (ht:eval (.Call (.Attribute o m apos) (e::es) [] pos) X.env=(do
      let ov ← eval o X.env
      standAt apos.atName
      let (f,first) ← holding [ov] (getMethod ov m pl)
      callWith pos f first (backTo pos (starEach (e::es) X.env)) (backToKw pos (keywordEach [] X.env))):=by rfl) :
    PE X (.Call (.Attribute o m apos) (e::es) [] pos) (Znw P w K mg base m k E ta t):=by
  obtain ⟨rfl,rfl,rfl,rfl,rfl⟩:=hX;exact ZaI he hx hr ha hst hpl ht
theorem Zcs{pl:Sem Bool}{P:Program}{w:World}{K:ZZfg}{mg:ZZmg}{base:Heap}(hX:CxIs X P w K mg base)(he:PE X o ta)(hr:Room k X.A)(ha:PA X (e::es) t)
    (hst:starEach (e::es) X.env=(false,eval e X.env)::starEach es X.env:=by rfl) (hpl:(backTo pos (starEach es X.env)).any (·.1)=false:=by rfl)
    (ht:eval (.Call (.Attribute o m apos) (e::es) [] pos) X.env=(do
      let ov ← eval o X.env
      standAt apos.atName
      let (f,first) ← holding [ov] (getMethod ov m pl)
      callWith pos f first (backTo pos (starEach (e::es) X.env)) (backToKw pos (keywordEach [] X.env))):=by rfl) :
    PE X (.Call (.Attribute o m apos) (e::es) [] pos) (Znv P w K mg base m k ta t):=by
  obtain ⟨rfl,rfl,rfl,rfl,rfl⟩:=hX;exact Zaz he hr ha hst hpl ht
end
theorem Zib{X:Cx}{pos:Pos}(K:ZZfg)(h:X.K=K){es:List Expr}{k:Nat}{t:TGs}{n:Nat}(hc:X.calm=true)(h1:PGs X es t)
    (hn:(assignEach es X.env).length=n:=by rfl) (hst:(assignEach es X.env).findIdx? (·.1)=none:=by rfl):PG X (.Tuple es k pos) (Zqy K n t):=by subst h; exact Zkk hc h1 hn hst
theorem Zfg{caps:List (Nat×Str)}{te:TE}{K:ZZfg}{a b:Addr}{xs ys:List V}{σ:St}{H:Hp}{QL:List V->Hp->Prop}(Pv:Nat->List V->Hp->Prop)(hz:xs.length<=1000)(h0:Pv 0 [] H)(hl:∀i zs H,Pv i zs H->SqL K H a xs/\SqL K H b ys)
    (hs:∀i x y T zs H,xs[i]?=some x->ys[i]?=some y->zs.length=i->H T=none->Pv i zs H->te (some x::some y::caps.map λp=>(σ[p.1]?).join) (upd H T (.tup [x,y])) λv H'=>Pv (i+1) (zs++[v]) H')
    (hd:∀zs H,zs.length=min xs.length ys.length->Pv (min xs.length ys.length) zs H->QL zs H) :
    Zhu 2 caps (Zqy K 2 (Zmf (Zdz 0) (Zmf (Zdz 1) Zry))) te σ (Itz K a b) H QL:=by
  have hz':xs.length<sizeLine:=ZdS hz;refine ⟨λi m zs H=>m=min xs.length ys.length-i/\i<=min xs.length ys.length/\zs.length=i/\Pv i zs H,⟨_,rfl,Qf _,rfl,h0⟩,?_⟩;rintro i m zs H' ⟨rfl,hi,hy,p⟩;obtain ⟨q1,q2⟩:=hl i zs H' p;refine ⟨⋯,?_⟩
  by_cases hlt:i<min xs.length ys.length
  · have l1:i<xs.length:=⋯
    have l2:i<ys.length:=⋯;refine .inr ⟨⟨xs,ys,xs[i],ys[i],q1,q2,by simp[l1],by simp[l2]⟩,⋯,λv H4=>Pv (i+1) (zs++[v]) H4,λv H4 p'=>⟨min xs.length ys.length-(i+1),⋯,rfl,hlt,by rw[Qg,hy]; rfl,p'⟩,λx H2 y=>?_⟩;obtain ⟨T,nT,rfl,u,v,e1,e2,rfl⟩:=y;exact ⟨T,[u,v],rfl,SqT.of Zaf,rfl,u,_,rfl,v,_,rfl,rfl,Zq1,hs i u v T zs H' (e1 xs q1) (e2 ys q2) hy nT p⟩
  · have e:i=min xs.length ys.length:=⋯
    subst e;exact .inl ⟨⟨xs,ys,q1,q2,⋯⟩,hd zs H' hy p⟩
theorem Zow:10^1000<2^4000:=by decide +kernel
theorem ZrF{i j:Int}(h:i.natAbs<=10^1000)(h':j.natAbs<=10^1000):IntMulOk i j :=
 .of_bits (Q0 (ZdA (n:=4000) (Q5 h Zow)) ∅) (Q0 (ZdA (n:=4000) (Q5 h' Zow)) ∅)
theorem Zmt{j:Int}(h:j.natAbs<=10^1000):j.natAbs.log2<9000:=by
 rcases Nat.eq_zero_or_pos j.natAbs with z|z
 ·rw[z];decide
 ·exact Ua ((Nat.log2_lt (Nat.ne_of_gt z)).mpr (Q5 h Zow)) ∅
section
variable{X:Cx}
theorem ZeY:OpR X (binaryOp .FloorDiv) (rI (λ_ j=>j≠0/\j.natAbs<=10^1000) λi j => .int (i.fdiv j)):=opI λ_ _ _ _ _ _ _ hc q=>floordiv_int hc.1 q (.inl (PyProof.noPylong_of_log2 (Zmt hc.2)))
theorem ZeQ:∀ {ns:List Int} {us:List Value},Vals (ns.map V.int) us->IntsAre us ns
 | [],_,.nil => .nil
 |_::_,_,.cons r t=>by obtain ⟨k,rfl⟩:=r;exact .cons _ _ (ZeQ t)
theorem Zmu(hc:X.calm=true):CallR X (.builtin "sum") (λxs H Q=>∃(p:Addr) (ns:List Int),xs=[.ref p]/\SqL X.K H p (ns.map V.int)/\Q (.int ns.sum) H):=by
 intro pins s σ H xs us Q I r h;obtain ⟨p,ns,rfl,hq,q⟩:=h;obtain ⟨u,rfl,rx⟩:=Zhi r
 cases rx
 obtain ⟨its,r',pl,hz⟩:=I.list hq;have hi:=ZeQ r';obtain ⟨xs,e⟩:=hi.allInts.items;have hs:(numsOf its).sum=ns.sum:=by rw[hi.numsOf]
 have e2:its=(intItems xs).toList:=by rw[<-e]
 rw[e2,nums_intItems] at hs;refine sum_intListG (xs:=xs) (I.ok.hd hc) (by rw[<-e];exact pl.isList) λh' tk t' hk=>?_;rw[preSum_eq,Wt (by simp)];rw[hs];exact ⟨.int ns.sum,H,I.kept hk,⟨t',rfl⟩,q⟩
end
structure OneCell (scope:Scope) (x0:Str):Prop where
 one:∀y∈scope.names,y.2 = .cell->y.1=x0
 lk:scope.names.lookup x0=some .cell
 cf:∀n acc,cellsFrom n scope.names acc=(x0,n)::acc
 pc:∀h,pushCells h scope.names=h.push { cls:=.type "cell", data:=.cell none }
section
variable{X:Cx}{tg iter elt:Expr}{scope:Scope}{pos:Pos}{wi:TI}{g:TG}{te:TE}{own:List Str}{caps:List (Nat×Str)}{x0:Str}
end
section
variable{X:Cx}{k:Nat}{f C:Addr}{fd:FuncData}{ps:List Str}{sp:Sp}{dvs:List V}{ds:List Value}{E:St->XK}{x:Str}{p pos:Pos}{e:Expr}{es:List Expr}{t:TA}
end
@[irreducible] def PEI (X:Cx) (e:Expr) (t:TE):Prop:=PE X e t
@[irreducible] def PSI (X:Cx) (st:Stmt) (t:TS):Prop:=PS X st t
@[irreducible] def PSsI (X:Cx) (st:List Stmt) (t:TS):Prop:=PSs X st t
section
variable{X:Cx}{st:Stmt}{ZjC:List Stmt}{t u:TS}{e:Expr}{te:TE}{pos:Pos}
end
section
variable{X:Cx}
end
def Fl(H:Hp)(x:V)(d:PyData):Prop:=(x = .non/\d = .none)\/(∃b,x = .bl b/\d = .bool b)\/(∃i,x = .int i/\d = .int i)\/(∃y,x = .str y/\d = .str y)\/(∃a,x = .ref a/\d = .dict []/\H a=some (.dK []))
def Rp(H:Hp):Nat->V->PyData->Prop
  | 0,x,d=>Fl H x d
  | n+1,x,d=>Fl H x d\/(∃a xs ds,x = .ref a/\d = .list ds/\H a=some (.lst xs)/\xs.length=ds.length/\∀(i:Nat) u e,xs[i]?=some u->ds[i]?=some e->Rp H n u e) ∨
      (∃a xs ds,x = .ref a/\d = .tuple ds/\H a=some (.tup xs)/\xs.length=ds.length/\∀(i:Nat) u e,xs[i]?=some u->ds[i]?=some e->Rp H n u e)
theorem Fl.same{H H':Hp}{x:V}{d:PyData}(h:Fl H x d)(S:Same H H'):Fl H' x d:=by
 rcases h with h|h|h|h|⟨a,e1,e2,h⟩
 ·exact .inl h
 ·exact .inr (.inl h)
 ·exact .inr (.inr (.inl h))
 ·exact .inr (.inr (.inr (.inl h)))
 ·exact .inr (.inr (.inr (.inr ⟨a,e1,e2,S _ _ h⟩)))
theorem Rp.same{H H':Hp}(S:Same H H'):∀ {n:Nat} {x:V} {d:PyData},Rp H n x d->Rp H' n x d
 |0,_,_,h=>Fl.same h S
 |n+1,x,d,h=>by
  rcases h with h|⟨a,xs,ds,e1,e2,h,l,r⟩|⟨a,xs,ds,e1,e2,h,l,r⟩
  ·exact .inl (Fl.same h S)
  ·exact .inr (.inl ⟨a,xs,ds,e1,e2,S _ _ h,l,λi u e a b=>Rp.same S (r i u e a b)⟩)
  ·exact .inr (.inr ⟨a,xs,ds,e1,e2,S _ _ h,l,λi u e a b=>Rp.same S (r i u e a b)⟩)
theorem Rp.up{H:Hp}:∀ {n:Nat} {x:V} {d:PyData},Rp H n x d->Rp H (n+1) x d
 |0,_,_,h => .inl h
 |n+1,x,d,h=>by
  rcases h with h|⟨a,xs,ds,e1,e2,h,l,r⟩|⟨a,xs,ds,e1,e2,h,l,r⟩
  ·exact .inl h
  ·exact .inr (.inl ⟨a,xs,ds,e1,e2,h,l,λi u e a b=>Rp.up (r i u e a b)⟩)
  ·exact .inr (.inr ⟨a,xs,ds,e1,e2,h,l,λi u e a b=>Rp.up (r i u e a b)⟩)
theorem Rp.mono{H:Hp}{x:V}{d:PyData}{n m:Nat}(h:Rp H n x d)(l:n<=m):Rp H m x d:=by
  induction m with
  | zero => obtain rfl:n = 0:=⋯
            exact h
  | succ m ih =>
    by_cases e:n=m+1
    · subst e; exact h
    · exact (ih ⋯).up
section
variable{X:Cx}{pins:List (Addr×Obj)}{σ:St}{H:Hp}{s:Shared}
theorem ZpI(I:Inv X pins σ H s){a:Addr}(h:H a=some (.dK [])):(a==sysModules)=false/\s.heap.DictOf (Zdx X.prog X.w) a []:=by
 obtain ⟨_,z,vs,kv,p⟩:=(show ObjOk X.prog X.w H s.heap a (.dK []) from I.hok a _ h)
 cases kv
 exact ⟨z,p⟩
theorem ZeZ{P P':Program}{w w':World}{h:Heap}{a:Addr}(d:h.DictOf (Zdx P w) a []):h.DictOf (Zdx P' w') a []:=by
  obtain ⟨o,es,ep,h1,h2,h3,h4,h5,h6⟩:=d;refine ⟨o,es,ep,h1,h2,h3,?_,?_,h6⟩
  · have:es.toList=[]:=by cases q:es.toList with
      | nil=>rfl
      | cons x r=>rw[q] at h5; cases h5
    intro e he;rw[Array.mem_def,this] at he
    cases he
  · cases q:es.toList with
    | nil=>exact .nil
    | cons x r=>rw[q] at h5; cases h5
theorem Fl.rc{A:Around}{x y:V}{v u:Value}{d:PyData}(I:Inv X pins σ H s)(hu:A.units<cLine)(hx:Fl H x d)(hy:Fl H y d)(rx:RelV x v)(ry:RelV y u):SeqAt.RcAt A s v u true/\SeqAt.RcNeAt A s v u false:=by
 rcases hx with ⟨rfl,rfl⟩|⟨b,rfl,rfl⟩|⟨i,rfl,rfl⟩|⟨z,rfl,rfl⟩|⟨a,rfl,rfl,ha⟩ <;> rcases hy with ⟨rfl,e⟩|⟨b',rfl,e⟩|⟨i',rfl,e⟩|⟨z',rfl,e⟩|⟨a',rfl,e,ha'⟩ <;> cases e
 ·cases rx;cases ry;exact ⟨SeqAt.RcAt.none_none,SeqAt.RcNeAt.none_none⟩
 ·cases rx;cases ry
  exact ⟨by have:=SeqAt.RcAt.bool_bool (A:=A) (s:=s) b b;simpa using this,by have:=SeqAt.RcNeAt.bool_bool (A:=A) (s:=s) b b;simpa using this⟩
 ·obtain ⟨t1,rfl⟩:=rx;obtain ⟨t2,rfl⟩:=ry;exact ⟨by have:=SeqAt.RcAt.int_int (A:=A) (s:=s) i t1 i t2;simpa using this,by have:=SeqAt.RcNeAt.int_int (A:=A) (s:=s) i t1 i t2;simpa using this⟩
 ·obtain ⟨t1,rfl⟩:=rx;obtain ⟨t2,rfl⟩:=ry;exact ⟨by have:=SeqAt.RcAt.str_str (A:=A) (s:=s) z t1 z t2;simpa using this,by have:=SeqAt.RcNeAt.str_str (A:=A) (s:=s) z t1 z t2;simpa using this⟩
 ·cases rx;cases ry
  obtain ⟨n1,d1⟩:=ZpI I ha;obtain ⟨n2,d2⟩:=ZpI I ha';refine ⟨λprog w E Q q=>?_,λprog w E Q q=>?_⟩
  ·exact PySem.W.keq_eq (knd:=Zdx prog w) (r:=true) n1 n2 (ZeZ d1) (ZeZ d2) hu (λ_ => .nil) q
  ·exact PySem.W.keq_ne (knd:=Zdx prog w) (r:=true) n1 n2 (ZeZ d1) (ZeZ d2) hu (λ_ => .nil) q
theorem Fl.at{A:Around}{x y:V}{v u:Value}{d:PyData}(I:Inv X pins σ H s)(hu:A.units<cLine)(hx:Fl H x d)(hy:Fl H y d)(rx:RelV x v)(ry:RelV y u):SeqAt.EqAt A s v u true:=by
 have rc:=(Fl.rc I hu hx hy rx ry).1;rcases hx with ⟨rfl,rfl⟩|⟨b,rfl,rfl⟩|⟨i,rfl,rfl⟩|⟨z,rfl,rfl⟩|⟨a,rfl,rfl,ha⟩ <;> rcases hy with ⟨rfl,e⟩|⟨b',rfl,e⟩|⟨i',rfl,e⟩|⟨z',rfl,e⟩|⟨a',rfl,e,ha'⟩ <;> cases e
 ·cases rx;cases ry;exact SeqAt.EqAt.same _
 ·cases rx;cases ry;exact SeqAt.EqAt.same _
 ·obtain ⟨t1,rfl⟩:=rx;obtain ⟨t2,rfl⟩:=ry;have:=SeqAt.EqAt.int_int (A:=A) (s:=s) i t1 i t2
  simpa using this
 ·obtain ⟨t1,rfl⟩:=rx;obtain ⟨t2,rfl⟩:=ry;have:=SeqAt.EqAt.str_str (A:=A) (s:=s) z t1 z t2
  simpa using this
 ·cases rx;cases ry
  by_cases hab:a=a'
  ·subst hab;exact SeqAt.EqAt.same _
  ·exact SeqAt.EqAt.of_refs hab rc
theorem Vals.at2{xs:List V}{its:List Value}(r:Vals xs its){j:Nat}(h:j<its.toArray.size):∃x,xs[j]?=some x/\RelV x its.toArray[j]:=by
 have l:=r.length;have j1:j<xs.length:=by simp at h;omega
 obtain ⟨v1,e1,q1⟩:=r.get (i:=j) (x:=xs[j]) (by simp[j1]);have f1:its.toArray[j]=v1:=by
  have:its[j]?=some its.toArray[j]:=by simp at h;simp[h]
  rw[this] at e1;exact Option.some.inj e1
 exact ⟨xs[j],by simp[j1],by rw[f1];exact q1⟩
theorem ZaV{α β:Type}{xs:List α}{ds:List β}{j:Nat}{x:α}(h:xs[j]?=some x)(l:xs.length=ds.length):∃d,ds[j]?=some d:=by
 have:=(Qo.mp h).1;exact ⟨ds[j]'⋯,Q4 ⋯⟩
theorem Rp.both(I:Inv X pins σ H s):∀(n:Nat) (A:Around) (x y:V) (v u:Value) (d:PyData),A.units+n<cLine->Rp H n x d->Rp H n y d->RelV x v->RelV y u->SeqAt.EqAt A s v u true/\SeqAt.RcAt A s v u true/\SeqAt.RcNeAt A s v u false
  | 0,A,x,y,v,u,d,hu,hx,hy,rx,ry=>⟨Fl.at I hu hx hy rx ry,Fl.rc I hu hx hy rx ry⟩
  | n+1,A,x,y,v,u,d,hu,hx,hy,rx,ry=>by
    have hu0:A.units<cLine:=⋯;rcases hx with hx | ⟨a,xs,ds,rfl,rfl,ha,hl,hi⟩ | ⟨a,xs,ds,rfl,rfl,ha,hl,hi⟩
    · have hy':Fl H y d:=by
        rcases hy with hy | ⟨b,ys,es,rfl,rfl,hb,hm,hj⟩ | ⟨b,ys,es,rfl,rfl,hb,hm,hj⟩
        · exact hy
        · rcases hx with ⟨_,e⟩ | ⟨_,_,e⟩ | ⟨_,_,e⟩ | ⟨_,_,e⟩ | ⟨_,_,e,_⟩ <;> cases e
        · rcases hx with ⟨_,e⟩ | ⟨_,_,e⟩ | ⟨_,_,e⟩ | ⟨_,_,e⟩ | ⟨_,_,e,_⟩ <;> cases e
      exact ⟨Fl.at I hu0 hx hy' rx ry,Fl.rc I hu0 hx hy' rx ry⟩
    · obtain ⟨b,ys,rfl,hb,hm,hj⟩:∃b ys,y = .ref b/\H b=some (.lst ys)/\ys.length=ds.length/\∀(i:Nat) u e,ys[i]?=some u->ds[i]?=some e->Rp H n u e:=by
        rcases hy with hy | ⟨b,ys,es,e1,e2,hb,hm,hj⟩ | ⟨b,ys,es,e1,e2,hb,hm,hj⟩
        · rcases hy with ⟨_,e⟩ | ⟨_,_,e⟩ | ⟨_,_,e⟩ | ⟨_,_,e⟩ | ⟨_,_,e,_⟩ <;> cases e
        · cases e2; exact ⟨b,ys,e1,hb,hm,hj⟩
        · cases e2
      cases rx
      cases ry
      obtain ⟨its,r1,p1,_⟩:=I.list (SqL.of ha);obtain ⟨jts,r2,p2,_⟩:=I.list (SqL.of hb);have l1:=r1.length;have l2:=r2.length;have el:∀(j:Nat) (h1:j<its.toArray.size) (h2:j<jts.toArray.size),SeqAt.EqAt A.in1 s its.toArray[j] jts.toArray[j] true:=λj h1 h2=>by
        obtain ⟨x1,g1,q1⟩:=r1.at2 h1;obtain ⟨x2,g2,q2⟩:=r2.at2 h2;obtain ⟨d,gd⟩:=ZaV g1 hl;exact (Rp.both I n A.in1 _ _ _ _ d (by show A.units+1+n<cLine; omega) (hi j _ _ g1 gd) (hj j _ _ g2 gd) q1 q2).1
      have rc:=SeqAt.RcAt.lists (A:=A) (e:=λ_=>true) p1.isList p2.isList (by simp; omega) hu0 el;have rn:=SeqAt.RcNeAt.lists (A:=A) (e:=λ_=>true) p1.isList p2.isList (by simp; omega) hu0 el;rw[Zch] at rc rn;refine ⟨?_,rc,rn⟩
      by_cases hab:a=b
      · subst hab; exact SeqAt.EqAt.same _
      · exact SeqAt.EqAt.of_refs hab rc
    · obtain ⟨b,ys,rfl,hb,hm,hj⟩:∃b ys,y = .ref b/\H b=some (.tup ys)/\ys.length=ds.length/\∀(i:Nat) u e,ys[i]?=some u->ds[i]?=some e->Rp H n u e:=by
        rcases hy with hy | ⟨b,ys,es,e1,e2,hb,hm,hj⟩ | ⟨b,ys,es,e1,e2,hb,hm,hj⟩
        · rcases hy with ⟨_,e⟩ | ⟨_,_,e⟩ | ⟨_,_,e⟩ | ⟨_,_,e⟩ | ⟨_,_,e,_⟩ <;> cases e
        · cases e2
        · cases e2; exact ⟨b,ys,e1,hb,hm,hj⟩
      cases rx
      cases ry
      obtain ⟨its,r1,p1,_⟩:=I.tuple (SqT.of ha);obtain ⟨jts,r2,p2,_⟩:=I.tuple (SqT.of hb);have l1:=r1.length;have l2:=r2.length;have el:∀(j:Nat) (h1:j<its.toArray.size) (h2:j<jts.toArray.size),SeqAt.EqAt A.in1 s its.toArray[j] jts.toArray[j] true:=λj h1 h2=>by
        obtain ⟨x1,g1,q1⟩:=r1.at2 h1;obtain ⟨x2,g2,q2⟩:=r2.at2 h2;obtain ⟨d,gd⟩:=ZaV g1 hl;exact (Rp.both I n A.in1 _ _ _ _ d (by show A.units+1+n<cLine; omega) (hi j _ _ g1 gd) (hj j _ _ g2 gd) q1 q2).1
      have es:(its.toArray.size==jts.toArray.size)=true:=by simp; omega
      have rc:=SeqAt.RcAt.tuples (A:=A) (e:=λ_=>true) p1 p2 hu0 el;have rn:=SeqAt.RcNeAt.tuples (A:=A) (e:=λ_=>true) p1 p2 hu0 el;rw[Zch,es] at rc rn;refine ⟨?_,rc,rn⟩
      by_cases hab:a=b
      · subst hab; exact SeqAt.EqAt.same _
      · exact SeqAt.EqAt.of_refs hab rc
end
section
variable{X:Cx}{k:Nat}
def Zsc:R2:=λx y H Q=>∃d,Rp H 8 x d/\Rp H 8 y d/\Q (.bl true) H
def Zsd:R2:=λx y H Q=>∃d,Rp H 8 x d/\Rp H 8 y d/\Q (.bl false) H
theorem ZrG(hr:Room k X.A):OpR X (compareOp .Eq) Zsc:=by
 intro pins s σ H x y v u Q I rx ry h;obtain ⟨d,hx,hy,q⟩:=h;have hu:=hr.units;exact (Rp.both I 8 X.A x y v u d ⋯ hx hy rx ry).2.1 _ _ _ _ ⟨.bl true,H,I,rfl,q⟩
theorem ZkV(hr:Room k X.A):OpR X (compareOp .NotEq) Zsd:=by
 intro pins s σ H x y v u Q I rx ry h;obtain ⟨d,hx,hy,q⟩:=h;have hu:=hr.units;exact (Rp.both I 8 X.A x y v u d ⋯ hx hy rx ry).2.2 _ _ _ _ ⟨.bl false,H,I,rfl,q⟩
end
section
variable{X:Cx}{es:List Expr}{te:TE}{t:TA}{p:Pos}{k:Nat}
end
def All2(R:V->PyData->Prop)(xs:List V)(ds:List PyData):Prop:=xs.length=ds.length/\∀(i:Nat) v d,xs[i]?=some v->ds[i]?=some d->R v d
section
variable{R R':V->PyData->Prop}{xs ys:List V}{ds es:List PyData}{x:V}{d:PyData}
theorem All2.nil:All2 R [] []:=⟨rfl,λi v d h=>by simp at h⟩
theorem All2.cons(h:R x d)(t:All2 R xs ds):All2 R (x::xs) (d::ds):=by
 refine ⟨by simp[t.1],λi v e hv he=>?_⟩
 cases i with
 |zero=>cases hv;cases he;exact h
 |succ i=>exact t.2 i v e (by simpa using hv) (by simpa using he)
theorem ZhF{H:Hp}{n:Nat}{a:Addr}(h:H a=some (.lst xs))(g:All2 (Rp H n) xs ds):Rp H (n+1) (.ref a) (.list ds):=.inr (.inl ⟨a,xs,ds,rfl,rfl,h,g.1,g.2⟩)
theorem ZpJ{H:Hp}{n:Nat}{a:Addr}(h:H a=some (.tup xs))(g:All2 (Rp H n) xs ds):Rp H (n+1) (.ref a) (.tuple ds):=.inr (.inr ⟨a,xs,ds,rfl,rfl,h,g.1,g.2⟩)
end
theorem Bits.le{n:Nat}{i j:Int}(h:Bits n j)(l:i.natAbs<=j.natAbs):Bits n i:=Bits.of (Q5 l h.lt)
theorem Bits.up{n m:Nat}{i:Int}(h:Bits n i)(l:n<=m):Bits m i:=Q0 h l
theorem Bits.mulT{i j:Int}(h:Bits 1000000 i)(h':Bits 1000000 j):IntMulOk i j:=Bits.mul (h.up ∅) (h'.up ∅)
theorem Bits.mulG{i j:Int}(h:Bits 1000000 i)(h':Bits 4000 j):IntMulOk i j:=h.mulT (h'.up ∅)
theorem Bits.times{n m:Nat}{i j:Int}(h:Bits n i)(h':Bits m j):Bits (n+m) (i*j):=Bits.of (by
 rw[Qr,Wp];exact Nat.mul_lt_mul'' h.lt h'.lt)
theorem Bits.plus{n:Nat}{i j:Int}(h:Bits n i)(h':Bits n j):Bits (n+1) (i+j):=Bits.of (by
 have:=Int.natAbs_add_le i j;have a:=h.lt;have b:=h'.lt;rw[Qq];omega)
theorem Bits.log{n:Nat}{i:Int}(h:Bits n i)(h0:i≠0):i.natAbs.log2<n:=by
 have:i.natAbs.log2+1<=n:=by unfold Bits Builtin.Int.intBits at h;simpa [h0] using h
 omega
section
variable{X:Cx}
theorem ZbX:OpR X (binaryOp .FloorDiv) (rI (λ_ j=>j≠0/\Bits 4000 j) λi j => .int (i.fdiv j)):=opI λ_ _ _ _ _ _ _ hc q=>floordiv_int hc.1 q (.inl (PyProof.noPylong_of_log2 (Ua (hc.2.log hc.1) ∅)))
end
def AllG{β:Type}(R:V->β->Prop)(xs:List V)(ds:List β):Prop:=xs.length=ds.length/\∀(i:Nat) v d,xs[i]?=some v->ds[i]?=some d->R v d
section
variable{β:Type}{R R':V->β->Prop}{xs ys:List V}{ds es:List β}{x:V}{d:β}
theorem AllG.nil:AllG R [] []:=⟨rfl,λi v d h=>by simp at h⟩
theorem AllG.cons(h:R x d)(t:AllG R xs ds):AllG R (x::xs) (d::ds):=by
 refine ⟨by simp[t.1],λi v e hv he=>?_⟩
 cases i with
 |zero=>cases hv;cases he;exact h
 |succ i=>exact t.2 i v e (by simpa using hv) (by simpa using he)
theorem AllG.mono(h:AllG R xs ds)(f:∀v d,R v d->R' v d):AllG R' xs ds:=⟨h.1,λi v d a b=>f v d (h.2 i v d a b)⟩
theorem AllG.append(h:AllG R xs ds)(g:AllG R ys es):AllG R (xs++ys) (ds++es):=by
 refine ⟨by rw[Qg,Qg,h.1,g.1],λi v e hv he=>?_⟩;have l:=h.1
 by_cases hi:i<xs.length
 ·rw[Wh hi] at hv;rw[Wh ⋯] at he;exact h.2 i v e hv he
 ·rw[Wo ⋯] at hv he;rw[<-l] at he;exact g.2 _ v e hv he
theorem AllG.drop(h:AllG R xs ds)(n:Nat):AllG R (xs.drop n) (ds.drop n):=by
 refine ⟨by rw[W7,W7,h.1],λi v e hv he=>?_⟩;rw[Uw] at hv he;exact h.2 _ v e hv he
theorem AllG.set(h:AllG R xs ds)(n:Nat)(g:R x d):AllG R (xs.set n x) (ds.set n d):=by
 refine ⟨by rw[W6,W6,h.1],λi v e hv he=>?_⟩;rw[Ux] at hv he;have l:=h.1
 split at hv
 ·rename_i hi
  rw[if_pos hi] at he
  split at hv
  ·rename_i hl
   rw[if_pos ⋯] at he
   cases hv;cases he;exact g
  ·cases hv
 ·rename_i hi
  rw[if_neg hi] at he;exact h.2 i v e hv he
theorem AllG.one(h:R x d):AllG R [x] [d]:=.cons h .nil
theorem AllG.get(h:AllG R xs ds){i:Nat}(hv:xs[i]?=some x):∃d,ds[i]?=some d/\R x d:=by
 obtain ⟨d,e⟩:=ZaV hv h.1;exact ⟨d,e,h.2 i x d hv e⟩
theorem AllG.get'(h:AllG R xs ds){i:Nat}(hi:i<ds.length):∃x,xs[i]?=some x/\R x ds[i]:=by
 have l:=h.1;exact ⟨xs[i]'⋯,Q4 ⋯,h.2 i _ _ (Q4 ⋯) (Q4 hi)⟩
theorem AllG.all2{D:β->PyData}{R2:V->PyData->Prop}(h:AllG R xs ds)(f:∀v b,R v b->R2 v (D b)):All2 R2 xs (ds.map D):=by
 refine ⟨by rw[Q2];exact h.1,λi v d hv hd=>?_⟩;rw[Qb] at hd
 cases e:ds[i]? with
 |none=>rw[e] at hd;cases hd
 |some b=>rw[e] at hd;cases hd;exact f v b (h.2 i v b hv e)
theorem AllG.zip{α:Type}{R3:V->α->Prop}{as:List α}(h:AllG R xs ds)(g:AllG R3 ys as){i:Nat}{a b:V}(ha:xs[i]?=some a)(hb:ys[i]?=some b):∃p q,ds[i]?=some p/\as[i]?=some q/\R a p/\R3 b q:=by
 obtain ⟨p,hp,rp⟩:=h.get ha;obtain ⟨q,hq,rq⟩:=g.get hb;exact ⟨p,q,hp,hq,rp,rq⟩
end
section
variable{X:Cx}{k:Nat}
theorem Znz{x y:V}{us:List Value}(r:Vals [x,y] us):∃u v,us=[u,v]/\RelV x u/\RelV y v:=by
 cases r with
 |cons r t=>cases t with
  |cons r2 t2=>cases t2;exact ⟨_,_,rfl,r,r2⟩
end
def Itv(K:ZZfg)(a:Addr)(n:Nat):It :=
 ⟨λi H=>i<n/\∃xs,SqL K H a xs/\xs.length=n,λi H x H'=>H'=H/\∀xs,SqL K H a xs->xs[n-1-i]?=some x,λi _=>i=n⟩
theorem Zmv{P:Program}{w:World}{K:ZZfg}{tg:Expr}(a it:Addr)(n:Nat):Turn P w K tg (Itv K a n) [it] it (λi h=>h.IsRevIter it a ((n:Int)-1-(i:Int))) where
 mem:=by simp
 obj:=λi h st b hb=>by
  have e:b=it:=by simpa using hb
  subst e;obtain ⟨o,e,c,d⟩:=st;exact ⟨o,e,λv z=>by rw[d] at z;cases z⟩
 keep:=λi h h' st k=>st.at λo e=>k it (by simp) o e
 item:=by
  intro X hP hw hK hc i pins s σ H E I hf st hg;subst hP hw hK;obtain ⟨hi,xs,hq,hn⟩:=hg;obtain ⟨its,rv,p,hz⟩:=I.list hq;have hx:xs[n-1-i]?=some (xs[n-1-i]'⋯):=Q4 ⋯;obtain ⟨u,hu,ru⟩:=rv.get hx;obtain ⟨f0,f1,f2,f3,f4,f5⟩:=hf it (by simp);have e1:(n:Int)-1-(i:Int)=((n-1-i:Nat):Int):=⋯;rw[e1] at st;refine wpAny_pyNext_rev_item st p.isList (x:=u) (by simpa using hu) λh' st' sb=>?_;have e2:((n-1-i:Nat):Int)-1=(n:Int)-1-((i+1:Nat):Int):=⋯;rw[e2] at st';have I1:Inv X pins σ H { s with heap:=h' }:=I.turned (t':=s.toks) (λb o hb e=>(sb.2 b hb).trans e) f0 f1 f3 f4 f5;obtain ⟨o,e,c,d⟩:=id st';exact ⟨u,rfl,Zkm (s:={ s with heap:=h' }) e c d ∅ ⟨_,H,I1,ru,⟨rfl,λys hy=>by rw[I.list_inj hy hq];exact hx⟩,st',λb hb=>(hf b hb).1⟩⟩
 done:=by
  intro X hP hw hK hc i pins s σ H E I hf st hg;subst hP hw hK;have hg:i=n:=hg;subst hg;obtain ⟨f0,f1,f2,f3,f4,f5⟩:=hf it (by simp);have e1:(i:Int)-1-(i:Int) = -1:=⋯;rw[e1] at st;exact wpAny_pyNext_rev_end (I.ok.hd hc) st λh' eb=>⟨rfl,I.turned (t':=s.toks) (λb o hb e=>eb b o hb e) f0 f1 f3 f4 f5⟩
 self:=λ_ _ _ _ _ st h=>wpAny_pyIter_revIter st h
section
variable{X:Cx}{tg:Expr}
inductive ZpK (K:ZZfg) (vs:List V) (H1:Hp) (R:It->Hp->Prop):Prop
 |mk (a:Addr) (xs:List V) (_:vs=[.ref a]) (_:SqL K H1 a xs) (_:R (Itv K a xs.length) H1):ZpK K vs H1 R
def Zse(K:ZZfg)(ta:TA):TI:=λσ H R=>ta σ H λvs H1=>ZpK K vs H1 R
theorem ZpL{e1:Expr}{ta:TA}{p pos:Pos}(hg:Gl X "reversed") (hm:X.mg "reversed" = none) (ha:PA X [e1] ta) (hs:starEach [e1] X.env=[(false,eval e1 X.env)]:=by rfl) :
    PI X tg (.Call (.Name "reversed" p) [e1] [] pos) (Zse X.K ta):=by
  intro pins s σ H R I h;refine wpAny_Call_Name_kw (Zdu I hg hm PyProof.Rows.Boot.«reversed» (PyProof.Rows.callWith_type1 (thn (ha pos pins s σ H _ I h) λus s1 ⟨vs,H1,I1,r1,q1⟩=>?_) (by rw[hs]; rfl) (by rfl)));obtain ⟨a,xs,e,hq,q⟩:=q1;subst e;obtain ⟨u,rfl,ru⟩:=Zhi r1
  cases (show u=Value.ref a from ru)
  obtain ⟨its,rv,pl,_⟩:=I1.list hq;have hl:=rv.length;refine call_reversed_list pl.isList ?_;have hI:({ s1 with heap:=s1.heap.push (revObj a ((its.toArray.size:Int)-1)) }:Shared).heap.IsRevIter s1.heap.objs.size a ((xs.length:Int)-1-((0:Nat):Int)):=by
    refine ⟨_,Heap.get?_push_size _ rfl,rfl,?_⟩;have:(its.toArray.size:Int)-1=(xs.length:Int)-1-((0:Nat):Int):=by rw[Qh]; omega
    rw[<-this]; rfl
  refine wpAny_pyIter_revIter hI ?_;refine ⟨s1.heap.objs.size,[s1.heap.objs.size],_,_,H1,rfl,I1.kept (t':=s1.toks) λb o e=>Heap.get?_push_of_some _ e,Zmv a _ xs.length,hI,λb hb=>?_,q⟩;have e:b=s1.heap.objs.size:=by simpa using hb
  subst e;exact I1.fpOk (Q3 _) (I1.hok.fresh (Q3 _))
end
section
variable{X:Cx}{k:Nat}
end
section
variable{X:Cx}{tg iter elt:Expr}{scope:Scope}{pos:Pos}{wi:TI}{g:TG}{te:TE}{own:List Str}{caps:List (Nat×Str)}
end
def Zox(H:Hp)(x y:V)(b:Bool):Prop:=(∃i j:Int,x = .int i/\y = .int j/\b=decide (i=j)) ∨
 (∃(a c:Addr) (n1 d1 n2 d2:Int),x = .ref a/\y = .ref c/\H a=some (.tup [.int n1,.int d1])/\H c=some (.tup [.int n2,.int d2])/\b=(decide (n1=n2)&&decide (d1=d2)))
section
variable{X:Cx}{k:Nat}
inductive ZrH (x y:V) (H:Hp) (Q:VK):Prop
 |mk (b:Bool) (_:Zox H x y b) (_:Q (.bl b) H):ZrH x y H Q
inductive ZrI (x y:V) (H:Hp) (Q:VK):Prop
 |mk (b:Bool) (_:Zox H x y b) (_:Q (.bl !b) H):ZrI x y H Q
theorem ZkW{pins:List (Addr×Obj)}{s:Shared}{σ:St}{H:Hp}{a c:Addr}{n1 d1 n2 d2:Int}{A:Around}(I:Inv X pins σ H s)(ha:H a=some (.tup [.int n1,.int d1]))(hc:H c=some (.tup [.int n2,.int d2]))(hu:A.units<cLine) :
    SeqAt.RcAt A s (.ref a) (.ref c) (decide (n1=n2)&&decide (d1=d2))/\SeqAt.RcNeAt A s (.ref a) (.ref c) (!(decide (n1=n2)&&decide (d1=d2))):=by
  obtain ⟨its,r1,p1,_⟩:=I.tuple (SqT.of ha);obtain ⟨u1,u2,rfl,ru1,ru2⟩:=Znz r1;obtain ⟨t1,rfl⟩:=ru1;obtain ⟨t2,rfl⟩:=ru2;obtain ⟨jts,r2,p2,_⟩:=I.tuple (SqT.of hc);obtain ⟨w1,w2,rfl,rw1,rw2⟩:=Znz r2;obtain ⟨s1,rfl⟩:=rw1;obtain ⟨s2,rfl⟩:=rw2;have el:∀(j:Nat) (h1:j<(#[Value.int n1 t1,Value.int d1 t2]:Array Value).size) (h2:j<(#[Value.int n2 s1,Value.int d2 s2]:Array Value).size),SeqAt.EqAt A.in1 s (#[Value.int n1 t1,Value.int d1 t2]:Array Value)[j] (#[Value.int n2 s1,Value.int d2 s2]:Array Value)[j] (if j=0 then n1==n2 else d1==d2):=λj h1 h2=>by
    have h1':j<2:=h1
    match j,h1' with
    | 0,_=>exact SeqAt.EqAt.int_int n1 t1 n2 s1
    | 1,_=>exact SeqAt.EqAt.int_int d1 t2 d2 s2
  have e:((List.range (min (#[Value.int n1 t1,Value.int d1 t2]).size (#[Value.int n2 s1,Value.int d2 s2]).size)).all (λj=>if j=0 then n1==n2 else d1==d2)&&(#[Value.int n1 t1,Value.int d1 t2]).size==(#[Value.int n2 s1,Value.int d2 s2]).size)=(decide (n1=n2)&&decide (d1=d2)):=by
    show ((n1==n2)&&((d1==d2)&&true)&&true)=_;rw[Bool.and_true,Bool.and_true]
    rfl
  have rc:=SeqAt.RcAt.tuples (A:=A) (e:=λj=>if j=0 then n1==n2 else d1==d2) p1 p2 hu el;have rn:=SeqAt.RcNeAt.tuples (A:=A) (e:=λj=>if j=0 then n1==n2 else d1==d2) p1 p2 hu el;rw[e] at rc rn;exact ⟨rc,rn⟩
theorem ZpM(hr:Room k X.A):OpR X (compareOp .Eq) ZrH:=by
 intro pins s σ H x y v u Q I rx ry h;obtain ⟨b,hb,q⟩:=h;rcases hb with ⟨i,j,rfl,rfl,rfl⟩|⟨a,c,n1,d1,n2,d2,rfl,rfl,ha,hc,rfl⟩
 ·refine Zby pins s σ H _ _ v u Q I rx ry ⟨rfl,?_⟩;have:decide (V.int i=V.int j)=decide (i=j):=by rw[Zgn];rfl
  rw[this];exact q
 ·cases rx
  cases ry
  have hu:X.A.units<cLine:=by have:=hr.units;omega
  exact (ZkW I ha hc hu).1 _ _ _ _ ⟨.bl _,H,I,rfl,q⟩
theorem ZpN(hr:Room k X.A):OpR X (compareOp .NotEq) ZrI:=by
 intro pins s σ H x y v u Q I rx ry h;obtain ⟨b,hb,q⟩:=h;rcases hb with ⟨i,j,rfl,rfl,rfl⟩|⟨a,c,n1,d1,n2,d2,rfl,rfl,ha,hc,rfl⟩
 ·refine Zgo pins s σ H _ _ v u Q I rx ry ⟨rfl,?_⟩;have:decide (V.int i=V.int j)=decide (i=j):=by rw[Zgn];rfl
  rw[this];exact q
 ·cases rx
  cases ry
  have hu:X.A.units<cLine:=by have:=hr.units;omega
  exact (ZkW I ha hc hu).2 _ _ _ _ ⟨.bl _,H,I,rfl,q⟩
end
section
variable{X:Cx}{tg iter elt cnd:Expr}{scope:Scope}{pos:Pos}{wi:TI}{g:TG}{tt:TT}{te:TE}{own:List Str}{caps:List (Nat×Str)}
end
end L2
namespace My
open PySem L2 PyProof.Rows
def top(i:Nat):Stmt:=PySem.Challenge.pw_turnframe_k45_least_of.main.body.getD i (.Pass ⟨0,0,0,0⟩)
abbrev Zeg:Stmt:=top 13
abbrev Zfh:Stmt:=top 14
abbrev Zgt:Stmt:=top 15
abbrev ZcZ:Stmt:=top 16
abbrev Zeh:Stmt:=top 17
abbrev ZcB:Stmt:=ZaL (top 19) 0
abbrev Zbh:Stmt:=ZaL (top 19) 2
abbrev ZaO:Stmt:=ZaL (top 20) 0
abbrev ZbN:Stmt:=ZaL (top 20) 1
abbrev ZbB:Stmt:=ZaL (top 20) 2
abbrev ZbC:Stmt:=ZaL (top 20) 3
abbrev ZbO:Stmt:=ZaL (top 20) 4
abbrev ZaH:Stmt:=ZaL (top 20) 5
abbrev ZaP:Stmt:=ZaL (top 20) 6
abbrev Za9:Stmt:=ZaL (top 20) 8
abbrev ZbP:Stmt:=ZaL (top 21) 0
abbrev Zbj:Stmt:=ZaL (top 21) 1
abbrev Zc0:Stmt:=ZaL (top 21) 2
abbrev ZcC:Stmt:=ZaL (top 21) 3
abbrev ZcD:Stmt:=ZaL (top 21) 4
abbrev Zc1:Stmt:=ZaL (top 21) 5
abbrev ZaY:Stmt:=ZaL (top 21) 6
abbrev ZbD:Stmt:=ZaL (top 21) 7
abbrev ZdB:Stmt:=top 23
abbrev ZcE:Stmt:=top 24
abbrev ZdC:Stmt:=top 25
abbrev Zgu:Stmt:=top 26
abbrev Zc2:Stmt:=top 27
abbrev Zgv:Stmt:=top 28
abbrev Zei:Stmt:=top 29
abbrev ZdD:Stmt:=top 30
abbrev Zic:Stmt:=top 31
abbrev Zci:Stmt:=top 32
abbrev Zfi:Stmt:=top 34
abbrev Zbl:Stmt:=top 35
abbrev ZbQ:Stmt:=ZaL (top 36) 0
abbrev Zc3:Stmt:=ZaL (top 36) 2
abbrev ZcF:Stmt:=ZaL (top 36) 3
abbrev ZcG:Stmt:=ZaL (top 36) 4
abbrev Zfj:Stmt:=top 37
abbrev Zgw:Stmt:=top 38
abbrev Zb1:Stmt:=top 39
abbrev Zcb:Stmt:=top 40
abbrev Zb2:Stmt:=top 41
abbrev ZcH:Stmt:=top 42
abbrev ZbR:Stmt:=top 44
abbrev ZbE:Stmt:=top 45
abbrev ZcI:Stmt:=top 47
abbrev Zid:Stmt:=top 48
abbrev Zfk:Stmt:=top 49
abbrev ZdE:Stmt:=top 50
abbrev Zcj:Stmt:=top 51
abbrev Zej:Stmt:=top 52
abbrev Zfl:Stmt:=top 54
abbrev ZdF:Stmt:=top 55
abbrev Zc4:Stmt:=top 56
abbrev Zfm:Stmt:=top 57
abbrev Zc5:Stmt:=top 58
abbrev Zgx:Stmt:=top 59
abbrev Zc6:Stmt:=top 60
abbrev Zgy:Stmt:=top 61
abbrev Zgz:Stmt:=top 62
abbrev Zfn:Stmt:=top 63
abbrev Zfo:Stmt:=top 64
abbrev ZcJ:Stmt:=top 65
abbrev Zfp:Stmt:=top 66
abbrev Zfq:Stmt:=top 67
abbrev Zek:Stmt:=top 68
abbrev Zel:Stmt:=top 69
abbrev ZdG:Stmt:=top 70
abbrev ZdH:Stmt:=top 71
abbrev ZgA:Stmt:=top 72
abbrev ZdI:Stmt:=top 73
abbrev ZdJ:Stmt:=top 74
abbrev ZdX:Stmt:=top 75
abbrev Zfr:Stmt:=top 76
abbrev Zoy:Stmt:=top 77
structure Nm (mg:ZZmg):Prop where
 abs:mg "abs"=none
 isinstance:mg "isinstance"=none
 int:mg "int"=none
 bool:mg "bool"=none
 tuple:mg "tuple"=none
 list:mg "list"=none
 len:mg "len"=none
 range:mg "range"=none
 PB:∃t,mg "PRIME_BOUND"=some (.int 1000000 t)
theorem nm_mk{mg:ZZmg}{v:Value}(h1:mg "PRIME_BOUND"=some v) (h2:∃t,v = .int 1000000 t) (a1:mg "abs"=none) (a2:mg "isinstance"=none) (a3:mg "int"=none) (a4:mg "bool"=none) (a5:mg "tuple"=none) (a6:mg "list"=none) (a7:mg "len"=none) (a8:mg "range"=none):Nm mg :=
 ⟨a1,a2,a3,a4,a5,a6,a7,a8,let ⟨t,e⟩:=h2;⟨t,by rw[h1,e]⟩⟩
structure Kd (K:ZZfg) (mg:ZZmg) (CF CR:Addr):Prop where
 clF:Cls K CF
 clR:Cls K CR
 nP:NoAttr K CR "prime"
 mkF:Mk0 K CF
 mgF:mg "Fractions"=some (.ref CF)
 mgR:mg "Rests"=some (.ref CR)
def fsR(p:Int):List (Str×V):=Zhl "prime" (.int p) []
theorem Zb3(p:Int):(fsR p).lookup ("prime":Str)=some (.int p):=by
 unfold fsR;rw[Zcx,if_pos rfl]
theorem Zc7(p:Int){m:Str}(h:¬m ="prime"):(fsR p).lookup m=none:=by
 unfold fsR;rw[Zcx,if_neg h]
 rfl
structure Fc (a b:Int):Prop where
 pos:0<b
 cop:Int.gcd a b=1
def FrA(CF:Addr)(H:Hp)(a:Addr):Prop:=∃dx,H a=some (.ins CF dx [])
theorem ZkX{b:Int}(h:0<b):0<b.natAbs:=Ut (Int.natAbs_ne_zero.mpr (Int.ne_of_gt h))
inductive ZaW (vs:List V) (H:Hp) (Q:VK) (zE:XK):Prop
 |mk (a b:Int) (_:vs=[.int a,.int b]) (_:Q (.int (Int.gcd a b)) H):ZaW vs H Q zE
section
variable{P:Program}{w:World}{K:ZZfg}{mg:ZZmg}{base:Heap}
theorem sc_divisor:FnScope ["one","other","rest"] ["one","other"] (Zah Zfh):=‹2›
theorem ZjQ(h:Here K mg "divisor" Zfh) (T:Nm mg):Has P w K mg base "divisor" 1 ["one", "other"] ZaW:=by
  refine h.has (λ_ _ F=>F.b2 λ_ _ _ _ _ _ _ _=>rfl) λf fd F=>F.ok sc_divisor (λvs H Q E h=>?_) (λcdv A outer s H vs Q E hr h=>?_)
  · obtain ⟨a,b,rfl,_⟩:=h
    rfl
  obtain ⟨x,y,rfl,k⟩:=h;have nd:=sc_divisor.nd;refine ⟨_,(Zac (Zbq PassesOwn.never (Zar Zgo (pv 1) Zad (Zav _)) (Zac (Zak (i:=2) nd rfl (Or.inl rfl) (Zan Zbo (pv 0) (pv 1)))
      (Zac (Zak (i:=0) nd rfl (Or.inl rfl) (pv 1))
      (Zae (Zak (i:=1) nd rfl (Or.inl rfl) (pv 2))))))
    (Zae (Zal (Zaj Zi3 (by rfl) T.abs boot_abs (Zaa (pv 0) Zab))))),?_⟩
  refine ⟨λm σ H'=>∃(a b:Int) (r:Option V),m=b.natAbs/\σ=[some (.int a),some (.int b),r]/\H'=H/\Int.gcd a b=Int.gcd x y,⟨_,x,y,none,rfl,rfl,rfl,rfl⟩,?_⟩;rintro m σ H' ⟨a,b,r,rfl,rfl,rfl,g⟩;refine ⟨_,rfl,rfl,_,rfl,?_⟩;refine ZeN (λhb=>⟨_,λ_ _ h=>h,?_⟩) (λhb=>?_)
  · refine ⟨_,rfl,_,rfl,_,_,rfl,rfl,hb,_,rfl,_,rfl,?_⟩
    exact ⟨_,M1.fmod_lt a hb,b,a.fmod b,_,rfl,rfl,rfl,by rw[M1.fmod_gcd]; exact g⟩
  · refine ⟨_,rfl,_,rfl,?_⟩
    subst hb;rw[<-M1.gcd_zero' a,g];exact k
theorem sc_l_divisor:FnScope ["_law_one","_law_other"] ["_law_one","_law_other"] (Zah ZdF):=‹2›
theorem ZhG(h:Here K mg "_law_divisor" ZdF) (T:Nm mg):Has P w K mg base "_law_divisor" 1 ["_law_one","_law_other"] ZaW:=by
 refine h.has (λ_ _ F=>F.b2 λ_ _ _ _ _ _ _ _=>rfl) λf fd F=>F.ok sc_l_divisor (λvs H Q E h=>?_) (λcdv A outer s H vs Q E hr h=>?_)
 ·obtain ⟨a,b,rfl,_⟩:=h
  rfl
 obtain ⟨x,y,rfl,k⟩:=h;have nd:=sc_l_divisor.nd;refine ⟨_,(Zac (Zbq PassesOwn.never (Zar Zgo (pv 1) Zad (Zav _)) (Zae (Zpq (i:=0) (j:=1) rfl nd rfl rfl ∅ rfl rfl (Zaa (pv 1) (Zaa (Zan Zbo (pv 0) (pv 1)) Zab)) rfl)))
  (Zae (Zal (Zaj Zi3 (by rfl) T.abs boot_abs (Zaa (pv 0) Zab))))),?_⟩
 refine ⟨λm σ H'=>∃(a b:Int),m=b.natAbs/\σ=[some (.int a),some (.int b)]/\H'=H/\Int.gcd a b=Int.gcd x y,⟨_,x,y,rfl,rfl,rfl,rfl⟩,?_⟩;rintro m σ H' ⟨a,b,rfl,rfl,rfl,g⟩;refine ⟨_,rfl,rfl,_,rfl,?_⟩;refine ZeN (λhb=>⟨_,λ_ _ h=>h,?_⟩) (λhb=>?_)
 ·refine ⟨_,rfl,_,rfl,_,rfl,_,_,rfl,rfl,hb,_,_,rfl,?_⟩;exact ⟨_,M1.fmod_lt a hb,b,a.fmod b,rfl,rfl,rfl,by rw[M1.fmod_gcd];exact g⟩
 ·refine ⟨_,rfl,_,rfl,?_⟩;subst hb;rw[<-M1.gcd_zero' a,g];exact k
end
inductive ZdY (vs:List V) (H:Hp) (Q:VK) (zE:XK):Prop
 |mk (i:Int) (_:vs=[.int i]) (_:Q (.bl true) H):ZdY vs H Q zE
section
variable{P:Program}{w:World}{K:ZZfg}{mg:ZZmg}{base:Heap}
theorem Zie:FnScope ["thing"] ["thing"] (Zah Zeg):=‹2›
theorem Zif(h:Here K mg "is_whole" Zeg) (T:Nm mg):Has P w K mg base "is_whole" 1 ["thing"] ZdY:=by
 refine h.has (λ_ _ F=>F.b1 λ_ _ _ _ _ _ _=>rfl) λf fd F=>F.ok Zie (λvs H Q E h=>?_) (λcdv A outer s H vs Q E hr h=>?_)
 ·obtain ⟨_,rfl,_⟩:=h
  rfl
 obtain ⟨i,rfl,k⟩:=h;refine ⟨_,(Zae (Zal (Zhf (Zaj Zcy (by rfl) T.isinstance boot_isinstance (Zaa (pv 0) (Zaa (ZcX (by rfl) T.int boot_int) Zab))) (Zf9 (Znm (Zaj Zcy (by rfl) T.isinstance boot_isinstance (Zaa (pv 0) (Zaa (ZcX (by rfl) T.bool boot_bool) Zab)))))))),?_⟩;refine ⟨_,rfl,_,_,_,_,rfl,.int i,Zb8 K _,_,rfl,?_⟩;refine ZjK ?_;exact ⟨_,rfl,_,_,_,_,rfl,.int i,ZeM K,_,rfl,k⟩
theorem ZjR:FnScope ["_law_found"] ["_law_found"] (Zah Zfl):=‹2›
theorem ZjS(h:Here K mg "_law_whole" Zfl) (T:Nm mg):Has P w K mg base "_law_whole" 1 ["_law_found"] ZdY:=by
 refine h.has (λ_ _ F=>F.b1 λ_ _ _ _ _ _ _=>rfl) λf fd F=>F.ok ZjR (λvs H Q E h=>?_) (λcdv A outer s H vs Q E hr h=>?_)
 ·obtain ⟨_,rfl,_⟩:=h
  rfl
 obtain ⟨i,rfl,k⟩:=h;refine ⟨_,(Zae (Zal (Zhf (Zaj Zcy (by rfl) T.isinstance boot_isinstance (Zaa (pv 0) (Zaa (ZcX (by rfl) T.int boot_int) Zab))) (Zf9 (Znm (Zaj Zcy (by rfl) T.isinstance boot_isinstance (Zaa (pv 0) (Zaa (ZcX (by rfl) T.bool boot_bool) Zab)))))))),?_⟩;refine ⟨_,rfl,_,_,_,_,rfl,.int i,Zb8 K _,_,rfl,?_⟩;refine ZjK ?_;exact ⟨_,rfl,_,_,_,_,rfl,.int i,ZeM K,_,rfl,k⟩
end
inductive ZdZ (vs:List V) (H:Hp) (Q:VK) (zE:XK):Prop
 |mk (n:Int) (_:vs=[.int n]) (_:n<1000000) (_:(M2.Prm n->Q (.bl true) H)) (_:(¬M2.Prm n->Q (.bl false) H)):ZdZ vs H Q zE
section
variable{P:Program}{w:World}{K:ZZfg}{mg:ZZmg}{base:Heap}
theorem sc_is_prime:FnScope ["number","trial"] ["number"] (Zah Zeh):=‹2›
theorem Zig(h:Here K mg "is_prime" Zeh) (T:Nm mg):Has P w K mg base "is_prime" 1 ["number"] ZdZ:=by
 refine h.has (λ_ _ F=>F.b1 λ_ _ _ _ _ _ _=>rfl) λf fd F=>F.ok sc_is_prime (λvs H Q E h=>?_) (λcdv A outer s H vs Q E hr h=>?_)
 ·obtain ⟨_,rfl,_⟩:=h
  rfl
 obtain ⟨n,rfl,hn,kt,kf⟩:=h;have nd:=sc_is_prime.nd;obtain ⟨tk,hPB⟩:=T.PB;refine ⟨_,(Zac (ZaB (Zcw (Zar Zef (pv 0) Zad (Zav _)) (ZcT (Zar ZqR (pv 0) (Zcv (v:=.int 1000000) (by rfl) hPB ⟨tk,rfl⟩) (Zav _)))).pt (Zae (Zal Zdr)) Zat)
  (Zac (ZaB (Zar Zby (Zan ZcU (pv 0) Zad) Zad (Zav _)) (Zae (Zal (Zcg Zby (pv 0) Zad (Zav _)))) Zat)
  (Zac (Zak (i:=1) nd rfl (Or.inl rfl) Zad)
  (Zac (Zbq PassesOwn.never (Zar Zn8 (Zan ZaC (pv 1) (pv 1)) (pv 0) (Zav _)) (Zac (ZaB (Zar Zby (Zan Zbo (pv 0) (pv 1)) Zad (Zav _)) (Zae (Zal Zdr)) Zat)
   (Zae (ZiZ (i:=1) nd rfl (Or.inl rfl) Zad Znn))))
  (Zae (Zal Zdr)))))),?_⟩
 refine ⟨_,rfl,_,_,rfl,rfl,_,rfl,?_⟩;refine Za8 (λh=>ZjK (kf λp=>by have:=p.1;omega)) (λh2=>?_);refine ⟨_,rfl,_,_,rfl,rfl,_,rfl,?_⟩;refine Za8 (λh=>absurd h ⋯) (λ_=>?_);refine ⟨_,rfl,_,_,rfl,rfl,(by show (0:Int)<_;decide),rfl,_,rfl,?_⟩;refine Zbx (λe=>?_) (λe=>?_)
 ·refine ⟨_,rfl,rfl,?_⟩;rw[Zh6];have iff:=M2.prm_even (n:=n) ⋯ e
  by_cases hp:n=2
  ·rw[decide_eq_true hp];exact kt (iff.mpr hp)
  ·rw[decide_eq_false hp];exact kf λz=>hp (iff.mp z)
 refine ⟨λm σ H'=>∃t:Int,m=(n+2-t).toNat/\σ=[some (.int n),some (.int t)]/\H'=H/\3<=t/\t%2=1/\t<=n+2/\M2.No n t,⟨_,3,rfl,rfl,rfl,⋯,⋯,⋯,M2.No.odd e⟩,?_⟩;rintro m σ H' ⟨t,rfl,rfl,rfl,h3,ho,hle,no⟩;have tf:t.natAbs<=10^150:=Q0 (show t.natAbs<=1000002 by omega) ∅;refine ⟨_,rfl,_,rfl,_,_,rfl,rfl,(Zbt tf tf),_,rfl,_,_,rfl,rfl,_,rfl,?_⟩;refine Za8 (λhl=>⟨_,λ_ _ h=>h,?_⟩) (λhl=>?_)
 ·refine ⟨_,rfl,_,rfl,_,_,rfl,rfl,(show t≠0 by omega),rfl,_,rfl,?_⟩;have lt:=M2.le_of_sq ⋯ hl;refine Zbx (λz=>kf (M2.found ⋯ hl ((M2.fmod_dvd ⋯).mp z))) (λz=>?_);refine ⟨_,rfl,_,_,rfl,rfl,?_⟩;exact ⟨_,⋯,t+2,rfl,rfl,rfl,⋯,⋯,⋯,no.next e ho λd=>z ((M2.fmod_dvd ⋯).mpr d)⟩
 ·exact kt (no.done ⋯ ⋯ hl)
theorem sc_l_is_prime:FnScope ["_law_number","_law_by"] ["_law_number"] (Zah Zc4):=‹2›
theorem ZgB(h:Here K mg "_law_is_prime" Zc4):Has P w K mg base "_law_is_prime" 1 ["_law_number"] ZdZ:=by
 refine h.has (λ_ _ F=>F.b1 λ_ _ _ _ _ _ _=>rfl) λf fd F=>F.ok sc_l_is_prime (λvs H Q E h=>?_) (λcdv A outer s H vs Q E hr h=>?_)
 ·obtain ⟨_,rfl,_⟩:=h
  rfl
 obtain ⟨n,rfl,hn,kt,kf⟩:=h;have nd:=sc_l_is_prime.nd;refine ⟨_,(Zac (Zak (i:=1) nd rfl (Or.inl rfl) Zad)
  (Zac (Zbq PassesOwn.never (Zar Zn8 (Zan ZaC (pv 1) (pv 1)) (pv 0) (Zav _)) (Zac (ZaB (Zar Zby (Zan Zbo (pv 0) (pv 1)) Zad (Zav _)) (Zae (Zal Zdr)) Zat)
   (Zae (Zak (i:=1) nd rfl (Or.inl rfl) (Zan ZaM (pv 1) Zad)))))
  (Zae (Zal (Zcg ZfR (pv 0) Zad (Zav _)))))),?_⟩
 refine ⟨λm σ H'=>∃t:Int,m=(n+2-t).toNat/\σ=[some (.int n),some (.int t)]/\H'=H/\2<=t/\(t<=2\/t<=n)/\M2.No n t,⟨_,2,rfl,rfl,rfl,⋯,⋯,M2.No.two⟩,?_⟩;rintro m σ H' ⟨t,rfl,rfl,rfl,h3,hle,no⟩;have tf:t.natAbs<=10^150:=Q0 (show t.natAbs<=1000002 by omega) ∅;refine ⟨_,rfl,_,rfl,_,_,rfl,rfl,(Zbt tf tf),_,rfl,_,_,rfl,rfl,_,rfl,?_⟩;refine Za8 (λhl=>⟨_,λ_ _ h=>h,?_⟩) (λhl=>?_)
 ·refine ⟨_,rfl,_,rfl,_,_,rfl,rfl,(show t≠0 by omega),rfl,_,rfl,?_⟩;have lt:=M2.le_of_sq ⋯ hl;refine Zbx (λz=>kf (M2.found ⋯ hl ((M2.fmod_dvd ⋯).mp z))) (λz=>?_);refine ⟨_,rfl,_,_,rfl,rfl,?_⟩;exact ⟨_,⋯,t+1,rfl,rfl,rfl,⋯,⋯,no.one λd=>z ((M2.fmod_dvd ⋯).mpr d)⟩
 ·refine ⟨_,rfl,_,_,rfl,rfl,?_⟩;show Q (V.bl (decide (1<n))) _
  by_cases h2:1<n
  ·rw[decide_eq_true h2];exact kt (no.done ⋯ ⋯ hl)
  ·rw[decide_eq_false h2];exact kf λp=>by have:=p.1;omega
end
inductive ZcK (K:ZZfg) (vs:List V) (H:Hp) (Q:VK) (zE:XK):Prop
 |mk (p r:Addr) (q a0 a1 a2 b0 b1 b2:Int) (_:vs=[.ref p,.int q,.ref r]) (_:SqT K H p [.int a0,.int a1,.int a2]) (_:SqT K H r [.int b0,.int b1,.int b2]) (_:IntMulOk q b0) (_:IntMulOk q b1) (_:IntMulOk q b2) (_:∀t,H t=none->Q (.ref t) (upd H t (.tup [.int (a0-q*b0),.int (a1-q*b1),.int (a2-q*b2)]))):ZcK K vs H Q zE
section
variable{P:Program}{w:World}{K:ZZfg}{mg:ZZmg}{base:Heap}
theorem ZgC:FnScope ["some","factor","others"] ["some","factor","others"] (Zah ZcZ):=‹2›
theorem ZgD(h:Here K mg "less_times" ZcZ):Has P w K mg base "less_times" 1 ["some","factor","others"] (ZcK K):=by
 refine h.has (λ_ _ F=>F.b3 λ_ _ _ _ _ _ _ _ _=>rfl) λf fd F=>F.ok ZgC (λvs H Q E h=>?_) (λcdv A outer s H vs Q E hr h=>?_)
 ·obtain ⟨_,_,_,_,_,_,_,_,_,rfl,_⟩:=h
  rfl
 obtain ⟨p,r,q,a0,a1,a2,b0,b1,b2,rfl,hp,hq,m0,m1,m2,k⟩:=h;refine ⟨_,(Zae (Zal (ZbU (Zaa (Zan Zbe (Zao Zax (pv 0) Zad (λ_ _=>rfl)) (Zan ZaC (pv 1) (Zao Zax (pv 2) Zad (λ_ _=>rfl)))) (Zaa (Zan Zbe (Zao Zax (pv 0) Zad (λ_ _=>rfl)) (Zan ZaC (pv 1) (Zao Zax (pv 2) Zad (λ_ _=>rfl)))) (Zaa (Zan Zbe (Zao Zax (pv 0) Zad (λ_ _=>rfl)) (Zan ZaC (pv 1) (Zao Zax (pv 2) Zad (λ_ _=>rfl)))) Zab)))))),?_⟩;refine ⟨_,rfl,_,_,_,_,rfl,rfl,hp,rfl,_,rfl,_,rfl,_,_,_,_,rfl,rfl,hq,rfl,_,_,rfl,rfl,m0,_,_,rfl,rfl,?_⟩;refine ⟨_,rfl,_,_,_,_,rfl,rfl,hp,rfl,_,rfl,_,rfl,_,_,_,_,rfl,rfl,hq,rfl,_,_,rfl,rfl,m1,_,_,rfl,rfl,?_⟩;refine ⟨_,rfl,_,_,_,_,rfl,rfl,hp,rfl,_,rfl,_,rfl,_,_,_,_,rfl,rfl,hq,rfl,_,_,rfl,rfl,m2,_,_,rfl,rfl,?_⟩;exact ⟨(by show 3<=sizeLine;decide),k⟩
end
inductive Zc8 (vs:List V) (H:Hp) (Q:VK) (zE:XK):Prop
 |mk (x y:Int) (_:vs=[.int x,.int y]) (_:x.natAbs<=10^100) (_:y.natAbs<=10^100) (_:∀(t:Addr) (H':Hp) (u v:Int),Same H H'->H' t=some (.tup [.int (Int.gcd x y),.int u,.int v])->(Int.gcd x y:Int)=x*u+y*v->u.natAbs<=10^101->v.natAbs<=10^101->Q (.ref t) H'):Zc8 vs H Q zE
section
variable{P:Program}{w:World}{K:ZZfg}{mg:ZZmg}{base:Heap}
theorem sc_shares:FnScope ["one","other","upper","lower","following"] ["one","other"] (Zah Zgt):=‹2›
theorem ZkY(h:Here K mg "shares" Zgt) (h_less_times:Has P w K mg base "less_times" 1 ["some","factor","others"] (ZcK K)):Has P w K mg base "shares" 2 ["one","other"] Zc8:=by
 refine h.has (λ_ _ F=>F.b2 λ_ _ _ _ _ _ _ _=>rfl) λf fd F=>F.ok sc_shares (λvs H Q E h=>?_) (λcdv A outer s H vs Q E hr h=>?_)
 ·obtain ⟨_,_,rfl,_⟩:=h
  rfl
 obtain ⟨x,y,rfl,bx,bY,k⟩:=h;have nd:=sc_shares.nd;refine ⟨_,(Zac (Zak (i:=2) nd rfl (Or.inl rfl) (ZbU (Zaa (pv 0) (Zaa Zad (Zaa Zad Zab)))))
  (Zac (Zak (i:=3) nd rfl (Or.inl rfl) (ZbU (Zaa (pv 1) (Zaa Zad (Zaa Zad Zab)))))
  (Zac (Zbq PassesOwn.never (Zar Zgo (Zao Zax (pv 3) Zad (λ_ _=>rfl)) Zad (Zav _)) (Zac (Zak (i:=4) nd rfl (Or.inl rfl) (Zam h_less_times hr (by rfl) (Zaa (pv 2) (Zaa (Zan Zgq (Zao Zax (pv 2) Zad (λ_ _=>rfl)) (Zao Zax (pv 3) Zad (λ_ _=>rfl))) (Zaa (pv 3) Zab)))))
   (Zac (Zak (i:=2) nd rfl (Or.inl rfl) (pv 3))
   (Zae (Zak (i:=3) nd rfl (Or.inl rfl) (pv 4))))))
  (Zac (ZaB (Zar Zef (Zao Zax (pv 2) Zad (λ_ _=>rfl)) Zad (Zav _)) (Zae (Zal (Zam h_less_times hr (by rfl) (Zaa (ZbU (Zaa Zad (Zaa Zad (Zaa Zad Zab)))) (Zaa Zad (Zaa (pv 2) Zab)))))) Zat)
  (Zae (Zal (pv 2))))))),?_⟩
 refine ⟨_,rfl,(by show 3<=sizeLine;decide),λp0 hp0=>?_⟩;refine ⟨_,rfl,(by show 3<=sizeLine;decide),λp1 hp1=>?_⟩;have S0:Same H (upd H p0 (.tup [.int x,.int 1,.int 0])):=Zag hp0 _;have S1:=S0.trans (Zag hp1 (.tup [.int y,.int 0,.int 1]));refine ⟨λm σ H'=>∃(p r:Addr) (f:Option V) (a u1 v1 b u2 v2:Int),m=b.natAbs/\σ=[some (.int x),some (.int y),some (.ref p),some (.ref r),f]/\Same H H'/\H' p=some (.tup [.int a,.int u1,.int v1])/\H' r=some (.tup [.int b,.int u2,.int v2])/\M1.Sh x y a u1 v1 b u2 v2,
  ⟨_,p0,p1,none,x,1,0,y,0,1,rfl,rfl,S1,by rw[Zau (Zay Zaf hp1)];exact Zaf,Zaf,M1.Sh.start x y⟩,?_⟩
 rintro m σ H' ⟨p,r,f,a,u1,v1,b,u2,v2,rfl,rfl,S,hp,hr',I⟩;have bd:=I.bound;have lim:x.natAbs+2*y.natAbs+1+1<=10^150:=⋯;have lim0:=Nat.le_of_succ_le lim;refine ⟨_,rfl,_,_,_,_,rfl,rfl,SqT.of hr',rfl,rfl,_,rfl,?_⟩;refine ZeN (λhb=>⟨_,λ_ _ h=>h,?_⟩) (λhb=>?_)
 ·refine ⟨_,rfl,_,rfl,_,_,_,_,rfl,rfl,SqT.of hp,rfl,_,rfl,_,_,_,_,rfl,rfl,SqT.of hr',rfl,_,_,rfl,rfl,⟨hb,Q0 bd.2.2.2.1 lim0⟩,_,rfl,?_⟩;have fd:=Q0 (M1.fdiv_small a hb) (Q0 (Nat.succ_le_succ bd.1) lim);refine ⟨p,r,a.fdiv b,a,u1,v1,b,u2,v2,rfl,SqT.of hp,SqT.of hr',Zbt fd (Q0 bd.2.2.2.1 lim0),Zbt fd (Q0 bd.2.2.2.2.1 lim0),Zbt fd (Q0 bd.2.2.2.2.2 lim0),λt ht=>?_⟩;refine ⟨_,rfl,_,rfl,?_⟩;exact ⟨_,(by rw[M1.rest_eq];exact M1.fmod_lt a hb),r,t,_,b,u2,v2,_,_,_,rfl,rfl,S.trans (Zag ht _),by rw[Zau (Zay hr' ht)];exact hr',Zaf,I.turn hb⟩
 ·subst hb;obtain ⟨g1,g2⟩:=I.done;refine ⟨_,rfl,_,_,_,_,rfl,rfl,SqT.of hp,rfl,_,_,rfl,rfl,_,rfl,?_⟩;refine Za8 (λhn=>?_) (λhn=>?_)
  ·refine ⟨(by show 3<=sizeLine;decide),λz hz=>?_⟩;refine ⟨_,rfl,?_⟩;refine ⟨z,p,1,0,0,0,a,u1,v1,rfl,SqT.of Zaf,SqT.of (by rw[Zau (Zay hp hz)];exact hp),Zbt ∅ (Q0 bd.1 lim0),Zbt ∅ (Q0 bd.2.1 lim0),Zbt ∅ (Q0 bd.2.2.1 lim0),λt ht=>?_⟩;have ed:(0:Int)-1*a=Int.gcd x y:=⋯;refine k t _ (0-1*u1) (0-1*v1) ((S.trans (Zag hz _)).trans (Zag ht _)) (by rw[Zaf,ed]) ?_ ⋯ ⋯;rw[<-ed,g2,Int.one_mul,Int.one_mul,Int.one_mul,Int.mul_sub,Int.mul_sub];omega
  ·refine ⟨_,rfl,?_⟩;have ed:a=Int.gcd x y:=⋯;refine k p H' u1 v1 S (by rw[<-ed];exact hp) (by rw[<-ed];exact g2) ⋯ ⋯
end
def ReA(CR:Addr)(p:Int)(H:Hp)(a:Addr):Prop:=∃dx,H a=some (.ins CR dx (fsR p))
inductive ZgE (CR:Addr) (vs:List V) (H:Hp) (Q:VK) (zE:XK):Prop
 |mk (x dx:Addr) (p:Int) (_:vs=[.ref x,.int p]) (_:H x=some (.ins CR dx [])) (_:M2.Prm p) (_:p<1000000) (_:Q .non (upd H x (.ins CR dx (fsR p)))):ZgE CR vs H Q zE
section
variable{P:Program}{w:World}{K:ZZfg}{mg:ZZmg}{base:Heap}
theorem Zem:FnScope ["self","prime"] ["self","prime"] (Zah ZbP):=‹2›
theorem Zmw{CR:Addr}(h:HereI K CR "Rests.__init__" ZbP) (cl:Cls K CR) (nP:NoAttr K CR "prime") (h_is_whole:Has P w K mg base "is_whole" 1 ["thing"] ZdY) (h_is_prime:Has P w K mg base "is_prime" 1 ["number"] ZdZ):HasI P w K mg base CR 2 ["self","prime"] (ZgE CR):=by
 refine h.hasI (λ_ _ F=>F.b2 λ_ _ _ _ _ _ _ _=>rfl) λf fd F=>F.ok Zem (λvs H Q E h=>?_) (λcdv A outer s H vs Q E hr h=>?_)
 ·obtain ⟨_,_,_,rfl,_⟩:=h
  rfl
 obtain ⟨x,dx,p,rfl,hx,hp,lp,k⟩:=h;refine ⟨_,(Zac (ZaB (Zcw (Zb6 (ZaF (Zam h_is_whole hr (by rfl) (Zaa (pv 1) Zab)))) (ZcT (Zb6 (ZaF (Zam h_is_prime hr (by rfl) (Zaa (pv 1) Zab)))))).pt (Zae Zme) Zat)
  (Zae (Znt (pv 0) (pv 1) rfl))),?_⟩
 refine ⟨_,rfl,p,rfl,_,rfl,?_⟩;refine Zdt ?_;refine ⟨_,rfl,p,rfl,lp,λ_=>⟨_,rfl,?_⟩,λz=>absurd hp z⟩;refine Zdt ?_;exact ⟨_,rfl,_,rfl,x,CR,dx,_,rfl,hx,cl,nP,(by show 0<1000;decide),k⟩
end
structure CN (K:ZZfg) (mg:ZZmg) (x:Str) (C:Addr):Prop where
 m:mg x=some (.ref C)
 c:PySem.W.isClsIn K C=true
 t:PySem.W.typeIn K (.ref C)=some (.type "type")
structure Rf (K:ZZfg) (mg:ZZmg) (CE cK cN cF cT cI cX cM cR:Addr):Prop where
 e:CN K mg "FrameError" CE
 eb:PySem.W.mroIn K CE (.type "BaseException")=some true
 k:CN K mg "NoKind" cK
 n:CN K mg "NoNumber" cN
 f:CN K mg "NoFit" cF
 t:CN K mg "NoTurn" cT
 i:CN K mg "NoInverse" cI
 x:CN K mg "NoText" cX
 m:CN K mg "NoName" cM
 r:CN K mg "NoRow" cR
 ve:mg "ValueError"=none
theorem Rf.cat{K:ZZfg}{mg:ZZmg}{CE cK cN cF cT cI cX cM cR:Addr}(R:Rf K mg CE cK cN cF cT cI cX cM cR):CatC K mg "FrameError" CE:=⟨R.e.m,R.e.t,R.eb,R.e.c⟩
def Zmx(K:ZZfg)(C:Addr):ZZla->Prop
 | []=>True
 |D::r=>(PySem.W.mroIn K C (.ref D)=some false/\C≠D)/\Zmx K C r
structure Rz (K:ZZfg) (mg:ZZmg) (x:Str) (CE C:Addr) (os:ZZla):Prop where
 c:ExcC K mg x C
 e:PySem.W.mroIn K C (.ref CE)=some true
 v:PySem.W.mroIn K C (.type "ValueError")=some true
 o:Zmx K C os
theorem CN.no{K:ZZfg}{mg:ZZmg}{x:Str}{C D:Addr}(n:CN K mg x D)(h:PySem.W.mroIn K C (.ref D)=some false/\C≠D):PySem.W.kitOne K (.ref C) (.ref D)=some false:=Zou n.c n.t h.1 h.2
def Zsf(m:Nat)(g:Nat->V):List V:=(List.range m).map g
theorem ZaA{rs:ZZla}{i:Nat}{x:V}(h:(rs.map V.ref)[i]?=some x):∃r,rs[i]?=some r/\x = .ref r:=by
 rw[Qb] at h
 cases e:rs[i]? with
 |none=>rw[e] at h;cases h
 |some r=>rw[e] at h;exact ⟨r,rfl,(Option.some.inj h).symm⟩
theorem ZaR{rs:ZZla}{i:Nat}{r:Addr}(h:rs[i]?=some r):atI (rs.map V.ref) (i:Int)=some (.ref r):=ZaK (by rw[Qb,h];rfl)
def Rows(H:Hp)(rs:ZZla)(m:Nat)(g:Nat->Nat->V):Prop:=∀(i:Nat) (r:Addr),rs[i]?=some r->H r=some (.lst (Zsf m (g i)))
structure Tb (H:Hp) (t:Addr) (rs:ZZla) (m:Nat) (g:Nat->Nat->V):Prop where
 l:H t=some (.lst (rs.map V.ref))
 r:Rows H rs m g
structure New (H:Hp) (rs:ZZla):Prop where
 nd:rs.Nodup
 no:∀r∈rs,H r=none
theorem z0(i:Nat):(0:Int)+(i:Int)=(i:Int):=Qw _
theorem New.out{H:Hp}{rs:ZZla}{a:Addr}{o:HO}(h:New H rs)(q:H a=some o):a∉rs:=λm=>by rw[h.no a m] at q;cases q
theorem ZgF{n i:Nat}(h:i<n):ixN n ((i:Nat):Int)=some i:=by
 have:=ZaK (xs:=List.range n) (j:=i) (v:=i) (by simp[h]);unfold atI at this;rw[Qs] at this
 cases q:ixN n (i:Int) with
 |none=>rw[q] at this;cases this
 |some j =>
  rw[q] at this
  simp only[Option.bind_some] at this
  have h2:=(Qo.mp this).2
  simp at h2
  rw[h2]
def KdA(CF CR:Addr)(p:Int)(H:Hp)(k:Addr):Prop:=(p=0/\FrA CF H k)\/(M2.Prm p/\p<1000000/\ReA CR p H k)
def Ez(H:Hp)(p e:Int)(v:V):Prop:=(p=0/\∃t,v = .ref t/\H t=some (.tup [.int e,.int 1]))\/(0<p/\v = .int e)
theorem ZpO{ns:List Int}{i:Nat}(h:i<ns.length):atI (ns.map V.int) (i:Int)=some (.int ns[i]):=ZaK (by rw[Qb,Q4 h] <;> rfl)
def PK(p:Int):Prop:=p=0\/(M2.Prm p/\p<1000000)
def Nu(H:Hp)(p:Int)(v:V):Prop:=(p=0/\∃t a b,v = .ref t/\H t=some (.tup [.int a,.int b])/\Fc a b/\a.natAbs<=10^60/\b.natAbs<=10^60)\/(0<p/\∃x,v = .int x/\0<=x/\x<p)
structure Ce (H:Hp) (c:Addr) (cs:List Int):Prop where
 l:H c=some (.lst (cs.map V.int))
 h1:1<=cs.length
 h2:cs.length<=66
 b:∀i∈cs,Bits 1048576 i
def Off(D:ZZla)(H H':Hp):Prop:=∀a o,a∉D->H a=some o->H' a=some o
theorem Off.same{D:ZZla}{H0 H H':Hp}(O:Off D H H')(S:Same H0 H)(n:∀r∈D,H0 r=none):Same H0 H':=λb o q=>O b o (λm=>by rw[n b m] at q;cases q) (S _ _ q)
def Zsg(H:Hp)(p:Int)(x y:V):Prop:=(0<p/\∃i,x = .int i/\y = .int i)\/(p=0/\∃s t a b,x = .ref s/\y = .ref t/\H s=some (.tup [.int a,.int b])/\H t=some (.tup [.int a,.int b]))
theorem Ez.eq{H:Hp}{p e:Int}{x y:V}(h:Ez H p e x)(h':Ez H p e y):Zsg H p x y:=by
 rcases h with ⟨z,t,e1,h1⟩|⟨z,e1⟩
 ·rcases h' with ⟨_,t',e2,h2⟩|⟨z',_⟩
  ·exact .inr ⟨z,t,t',_,_,e1,e2,h1,h2⟩
  ·omega
 ·rcases h' with ⟨z',_⟩|⟨_,e2⟩
  ·omega
  ·exact .inl ⟨z,_,e1,e2⟩
theorem Nu.kind{H:Hp}{p:Int}{x:V}(h:Nu H p x):(∃i,x = .int i)\/∃a,x = .ref a:=by
 rcases h with ⟨_,t,_,_,e,_⟩|⟨_,i,e,_⟩
 ·exact .inr ⟨t,e⟩
 ·exact .inl ⟨i,e⟩
class Fd (α:Type) extends Lean.Grind.CommRing α where
 inv:α->α
 mul_inv:∀a:α,a≠0->a*inv a=1
 zne:(0:α)≠1
instance:Fd Rat where
 inv:=Rat.inv
 mul_inv:=λa h=>Rat.mul_inv_cancel a h
 zne:=∅
theorem bez:∀a b:Nat,∃u v:Int,a*u+b*v=(Nat.gcd a b:Int):=by
 intro a b
 induction a,b using Nat.gcd.induction with
 |H0 n=>exact ⟨0,1,by simp⟩
 |H1 m n hm ih =>
  obtain ⟨u,v,e⟩:=ih;refine ⟨v-(n/m:Nat)*u,u,?_⟩;rw[Nat.gcd_rec,<-e];have h:(n:Int)=m*(n/m:Nat)+(n%m:Nat):=by
   have:=Nat.div_add_mod n m
   exact_mod_cast this.symm
  rw[Int.mul_sub]
  conv=>lhs;rw[h]
  rw[Int.add_mul];generalize ((n/m:Nat):Int)=q;generalize ((n%m:Nat):Int)=r;have e1:(m:Int)*(q*u)=m*q*u:=by rw[W0]
  omega
structure PrN (p:Nat):Prop where
 pr:M2.Prm (p:Int)
 lt:p<1000000
theorem PrN.two{p:Nat}(h:PrN p):2<=p:=by have:=h.pr.1;omega
theorem PrN.nz{p:Nat}(h:PrN p):NeZero p:=⟨by have:=h.two;omega⟩
theorem ZkZ{p:Nat}(h:PrN p):letI:=h.nz;∀a:Fin p,a≠0->∃b:Fin p,a*b=1:=by
 letI:=h.nz
 intro a ha;have h2:=h.two;have nd:¬(p:Int) ∣ (a.val:Int):=by
  rintro ⟨k,hk⟩;have hv:a.val≠0:=λz=>ha (Fin.ext (by simpa using z));have hl:=a.isLt;have hk0:0<k:=by
   rcases Int.lt_or_le 0 k with c|c
   ·exact c
   ·have:(p:Int)*k<=0:=Int.mul_nonpos_of_nonneg_of_nonpos ⋯ c;omega
  have:(p:Int)*1<=p*k:=Int.mul_le_mul_of_nonneg_left ⋯ ⋯;omega
 have g:=M2.prm_gcd h.pr nd;obtain ⟨u,v,e⟩:=bez a.val p;have g':Nat.gcd a.val p=1:=by
  have:Int.gcd (a.val:Int) (p:Int)=Nat.gcd a.val p:=rfl;omega
 rw[g'] at e;refine ⟨⟨(u%p).toNat,?_⟩,?_⟩
 ·have:=Int.emod_lt_of_pos u (show 0<(p:Int) by omega);have:=Int.emod_nonneg u (show (p:Int)≠0 by omega);omega
 ·refine Fin.ext ?_;rw[Fin.val_mul];have e0:=Int.emod_nonneg u (show (p:Int)≠0 by omega);have e1:((a.val*(u%p).toNat%p:Nat):Int)=((1:Nat):Int):=by
   rw[Ww,W1,Int.toNat_of_nonneg e0,Int.mul_emod,Int.emod_emod_of_dvd _ (Int.dvd_refl _),<-Int.mul_emod];have:(a.val:Int)*u=1-p*v:=⋯;rw[this,Int.sub_emod,Int.mul_emod_right]
   simp
   exact Ul ⋯ ⋯
  have e2:a.val*(u%p).toNat%p=1:=by exact_mod_cast e1
  have e3:(1:Fin p).val=1:=by
   show 1%p=1;exact Nat.mod_eq_of_lt h2
  rw[e3];exact e2
@[reducible] noncomputable def finFd {p:Nat} (h:PrN p):Fd (Fin p) :=
 letI:=h.nz
 { (inferInstance:Lean.Grind.CommRing (Fin p)) with
  inv:=λa=>if ha:a≠0 then Classical.choose (ZkZ h a ha) else 0
  mul_inv:=λa ha=>by
   simp only[dif_pos ha]
   exact Classical.choose_spec (ZkZ h a ha)
  zne:=λz=>by
   have:=congrArg Fin.val z;have h2:=h.two;have e3:(1:Fin p).val=1:=by
    show 1%p=1;exact Nat.mod_eq_of_lt h2
   have e4:(0:Fin p).val=0:=by simp
   rw[e3,e4] at this
   cases this }
inductive KX where
 |q
 |r (p:Nat) (h:PrN p)
@[reducible] def KX.F:KX->Type
 | .q=>Rat
 | .r p _=>Fin p
abbrev ZZlk(κ:KX):=List κ.F
abbrev ZZll(κ:KX):=List (List κ.F)
noncomputable instance (κ:KX):Fd κ.F:=match κ with
 | .q=>inferInstanceAs (Fd Rat)
 | .r _ h=>finFd h
def KX.P:KX->Int
 | .q=>0
 | .r p _=>p
def KX.D:(κ:KX)->κ.F->PyData
 | .q,x => .tuple [.int x.num,.int x.den]
 | .r _ _,x => .int x.val
def NR(κ:KX)(H:Hp)(v:V)(x:κ.F):Prop:=match κ with
 | .q=>∃a,v = .ref a/\H a=some (.tup [.int x.num,.int x.den])
 | .r _ _=>v = .int x.val
theorem NR.same{κ:KX}{H H':Hp}{v:V}{x:κ.F}(h:NR κ H v x)(S:Same H H'):NR κ H' v x:=by
 cases κ with
 |q=>obtain ⟨a,e,h⟩:=h;exact ⟨a,e,S _ _ h⟩
 |r p hp=>exact h
theorem NR.off{κ:KX}{H H':Hp}{t:Addr}{ys:List V}{v:V}{x:κ.F}(h:NR κ H v x)(ht:H t=some (.lst ys))(O:Off [t] H H'):NR κ H' v x:=by
 cases κ with
 |q =>
  obtain ⟨a,e,h⟩:=h;refine ⟨a,e,O _ _ (λm=>?_) h⟩;rw[Q6.mp m,ht] at h
  cases h
 |r p hp=>exact h
theorem Zih{H:Hp}{i:Int}:Fl H (.int i) (.int i):=.inr (.inr (.inl ⟨i,rfl,rfl⟩))
theorem NR.rp{κ:KX}{H:Hp}{v:V}{x:κ.F}(h:NR κ H v x):Rp H 1 v (κ.D x):=by
 cases κ with
 |q =>
  obtain ⟨a,rfl,h⟩:=h;exact ZpJ h (.cons Zih (.cons Zih .nil))
 |r p hp =>
  have h:v = .int x.val:=h;subst h;exact .inl Zih
def Bd(κ:KX)(n m:Nat)(x:κ.F):Prop:=match κ with
 | .q=>Bits n x.num/\Bits m (x.den:Int)
 | .r _ _=>True
theorem Zk0{n d N D:Int}(fc:Fc n d)(hD:0<D)(e:n*D=N*d):(Rat.divInt N D).num=n/\((Rat.divInt N D).den:Int)=d:=by
 have hd:=fc.pos;have q0:∃q:Rat,q.num=n/\(q.den:Int)=d:=by
  refine ⟨⟨n,d.toNat,⋯,?_⟩,rfl,by show ((d.toNat:Nat):Int)=d;omega⟩;have:=fc.cop;rw[Nat.coprime_iff_gcd_eq_one];have e:Int.gcd n d=Nat.gcd n.natAbs d.natAbs:=rfl;have e2:d.natAbs=d.toNat:=⋯;rw[<-e2];omega
 obtain ⟨q,e1,e2⟩:=q0;have:Rat.divInt N D=q:=by
  rw[<-W3 q,e1,e2,W9 ⋯ ⋯];exact e.symm
 rw[this];exact ⟨e1,e2⟩
theorem Zbf(x:Rat):Fc x.num x.den:=⟨by have:=x.den_nz;omega,by
 have:=x.reduced;rw[Nat.coprime_iff_gcd_eq_one] at this;exact this⟩
theorem Zk1{x y:Rat}{n d:Int}(fc:Fc n d)(e:n*((x.den:Int)*y.den)=(x.num*y.den+y.num*x.den)*d):(x+y).num=n/\((x+y).den:Int)=d:=by
 have hx:=(Zbf x).pos;have hy:=(Zbf y).pos;have:x+y=Rat.divInt (x.num*y.den+y.num*x.den) ((x.den:Int)*y.den):=by
  rw[<-Rat.divInt_add_divInt _ _ ⋯ ⋯,W3,W3]
 rw[this];exact Zk0 fc (W8 hx hy) e
theorem Zii{x y:Rat}{n d:Int}(fc:Fc n d)(e:n*((x.den:Int)*y.den)=(x.num*y.num)*d):(x*y).num=n/\((x*y).den:Int)=d:=by
 have hx:=(Zbf x).pos;have hy:=(Zbf y).pos;have:x*y=Rat.divInt (x.num*y.num) ((x.den:Int)*y.den):=by
  rw[<-U2,W3,W3]
 rw[this];exact Zk0 fc (W8 hx hy) e
inductive Zd0 (K:ZZfg) (CF:Addr) (vs:List V) (H:Hp) (Q:VK) (zE:XK):Prop
 |mk (s p q:Addr) (a1 b1 a2 b2:Int) (_:vs=[.ref s,.ref p,.ref q]) (_:FrA CF H s) (_:SqT K H p [.int a1,.int b1]) (_:SqT K H q [.int a2,.int b2]) (_:Fc a1 b1) (_:Fc a2 b2) (_:Bits 1000000 a1) (_:Bits 4000 b1) (_:Bits 1000000 a2) (_:Bits 4000 b2) (_:∀(t:Addr) (H':Hp) (x y:Int),Same H H'->H' t=some (.tup [.int x,.int y])->H t=none->Fc x y->x*(b1*b2)=(a1*b2+a2*b1)*y->Q (.ref t) H'):Zd0 K CF vs H Q zE
section
variable{P:Program}{w:World}{K:ZZfg}{mg:ZZmg}{base:Heap}
theorem sc_Fractions_plusG:FnScope ["self","one","other","common","ahead","top","left"] ["self","one","other"] (Zah ZbN):=‹2›
theorem Zk2{CF:Addr}(h:HereM K CF "plus" "Fractions.plus" ZbN) (h_divisor:Has P w K mg base "divisor" 1 ["one","other"] ZaW):HasM P w K mg base CF "plus" 2 ["self","one","other"] [] (Zd0 K CF):=by
 refine h.hasM (λ_ _ F=>F.b3 λ_ _ _ _ _ _ _ _ _=>rfl) λf fd F=>F.ok sc_Fractions_plusG (λvs H Q E h=>?_) (λcdv A outer s H vs Q E hr h=>?_)
 ·obtain ⟨_,_,_,_,_,_,_,rfl,_⟩:=h
  rfl
 obtain ⟨sf,p,q,a1,b1,a2,b2,rfl,_,hp,hq,f1,f2,la1,lb1,la2,lb2,k⟩:=h;have nd:=sc_Fractions_plusG.nd;refine ⟨_,(Zac (Zak (i:=3) nd rfl (Or.inl rfl) (Zam h_divisor hr (by rfl) (Zaa (Zao Zax (pv 1) Zad (λ_ _=>rfl)) (Zaa (Zao Zax (pv 2) Zad (λ_ _=>rfl)) Zab))))
  (Zac (Zak (i:=4) nd rfl (Or.inl rfl) (Zan ZbX (Zao Zax (pv 1) Zad (λ_ _=>rfl)) (pv 3)))
  (Zac (Zak (i:=5) nd rfl (Or.inl rfl) (Zan ZaM (Zan ZaC (Zao Zax (pv 1) Zad (λ_ _=>rfl)) (Zan ZbX (Zao Zax (pv 2) Zad (λ_ _=>rfl)) (pv 3))) (Zan ZaC (Zao Zax (pv 2) Zad (λ_ _=>rfl)) (pv 4))))
  (Zac (Zak (i:=6) nd rfl (Or.inl rfl) (Zam h_divisor hr (by rfl) (Zaa (pv 5) (Zaa (pv 3) Zab))))
  (Zae (Zal (ZbU (Zaa (Zan ZbX (pv 5) (pv 6)) (Zaa (Zan ZaC (pv 4) (Zan ZbX (Zao Zax (pv 2) Zad (λ_ _=>rfl)) (pv 6))) Zab))))))))),?_⟩
 have hb1:=f1.pos;have hb2:=f2.pos;have hg:=M3.gcd_ne (a:=b1) (b:=b2) ⋯;have gl:Int.gcd b1 b2<=b2.natAbs:=Ud ⋯ (Ue.mpr (Wb b1 b2));have hg1:(Int.gcd b1 b2:Int)≠0/\Bits 4000 (Int.gcd b1 b2:Int):=⟨⋯,lb2.le (by rw[Qj];exact gl)⟩;have d1:=M3.fdiv_le (U1 b1 b2) hg1.1;have d2:=M3.fdiv_le (Wb b1 b2) hg1.1;refine ⟨_,rfl,_,_,_,_,rfl,rfl,hp,rfl,_,rfl,_,_,_,_,rfl,rfl,hq,rfl,b1,b2,rfl,?_⟩;refine ⟨_,rfl,_,_,_,_,rfl,rfl,hp,rfl,_,rfl,_,_,rfl,rfl,hg1,?_⟩;refine ⟨_,rfl,_,_,_,_,rfl,rfl,hp,rfl,_,rfl,_,_,_,_,rfl,rfl,hq,rfl,_,rfl,_,_,rfl,rfl,hg1,_,_,rfl,rfl,la1.mulG (lb2.le d2),_,rfl,_,_,_,_,rfl,rfl,hq,rfl,_,rfl,_,_,rfl,rfl,la2.mulG (lb1.le d1),_,_,rfl,rfl,?_⟩;refine ⟨_,rfl,_,rfl,_,_,rfl,?_⟩;obtain ⟨o1,o2,o3,o4⟩:=M3.plus_ok hb1 hb2 f1.cop f2.cop rfl;have ll:Int.gcd (a1*b2.fdiv (Int.gcd b1 b2)+a2*b1.fdiv (Int.gcd b1 b2)) (Int.gcd b1 b2)<=Int.gcd b1 b2:=Ud ⋯ (Int.ofNat_dvd.mp (Wb (a1*b2.fdiv (Int.gcd b1 b2)+a2*b1.fdiv (Int.gcd b1 b2)) (Int.gcd b1 b2)));have hl1:(Int.gcd (a1*b2.fdiv (Int.gcd b1 b2)+a2*b1.fdiv (Int.gcd b1 b2)) (Int.gcd b1 b2):Int)≠0/\Bits 4000 (Int.gcd (a1*b2.fdiv (Int.gcd b1 b2)+a2*b1.fdiv (Int.gcd b1 b2)) (Int.gcd b1 b2):Int):=⟨by have:=M3.gcd_ne (a:=a1*b2.fdiv (Int.gcd b1 b2)+a2*b1.fdiv (Int.gcd b1 b2)) (b:=(Int.gcd b1 b2:Int)) ⋯;omega,lb2.le (by rw[Qj];exact Q0 ll gl)⟩;have d3:=M3.fdiv_le (U1 (a1*b2.fdiv (Int.gcd b1 b2)+a2*b1.fdiv (Int.gcd b1 b2)) (Int.gcd b1 b2)) hl1.1;have d4:=M3.fdiv_le (Int.dvd_trans (Wb (a1*b2.fdiv (Int.gcd b1 b2)+a2*b1.fdiv (Int.gcd b1 b2)) (Int.gcd b1 b2)) (Wb b1 b2)) hl1.1;refine ⟨_,rfl,_,rfl,_,_,rfl,rfl,hl1,_,rfl,_,rfl,_,_,_,_,rfl,rfl,hq,rfl,_,rfl,_,_,rfl,rfl,hl1,_,_,rfl,rfl,((lb1.le d1).up ∅).mulG (lb2.le d4),(by show 2<=sizeLine;decide),λt ht'=>?_⟩;exact k t _ _ _ (Zag ht' _) Zaf ht' ⟨o2,o3⟩ o4
end
inductive Zen (K:ZZfg) (CF:Addr) (vs:List V) (H:Hp) (Q:VK) (zE:XK):Prop
 |mk (s p q:Addr) (a1 b1 a2 b2:Int) (_:vs=[.ref s,.ref p,.ref q]) (_:FrA CF H s) (_:SqT K H p [.int a1,.int b1]) (_:SqT K H q [.int a2,.int b2]) (_:Fc a1 b1) (_:Fc a2 b2) (_:Bits 1000000 a1) (_:Bits 4000 b1) (_:Bits 1000000 a2) (_:Bits 4000 b2) (_:∀(t:Addr) (H':Hp) (x y:Int),Same H H'->H' t=some (.tup [.int x,.int y])->H t=none->Fc x y->x*(b1*b2)=(a1*a2)*y->Q (.ref t) H'):Zen K CF vs H Q zE
section
variable{P:Program}{w:World}{K:ZZfg}{mg:ZZmg}{base:Heap}
theorem sc_Fractions_timesG:FnScope ["self","one","other","falling","rising","top"] ["self","one","other"] (Zah ZbC):=‹2›
theorem ZjT{CF:Addr}(h:HereM K CF "times" "Fractions.times" ZbC) (h_divisor:Has P w K mg base "divisor" 1 ["one","other"] ZaW):HasM P w K mg base CF "times" 2 ["self","one","other"] [] (Zen K CF):=by
 refine h.hasM (λ_ _ F=>F.b3 λ_ _ _ _ _ _ _ _ _=>rfl) λf fd F=>F.ok sc_Fractions_timesG (λvs H Q E h=>?_) (λcdv A outer s H vs Q E hr h=>?_)
 ·obtain ⟨_,_,_,_,_,_,_,rfl,_⟩:=h
  rfl
 obtain ⟨sf,p,q,a1,b1,a2,b2,rfl,_,hp,hq,f1,f2,la1,lb1,la2,lb2,k⟩:=h;have nd:=sc_Fractions_timesG.nd;refine ⟨_,(Zac (Zak (i:=3) nd rfl (Or.inl rfl) (Zam h_divisor hr (by rfl) (Zaa (Zao Zax (pv 1) Zad (λ_ _=>rfl)) (Zaa (Zao Zax (pv 2) Zad (λ_ _=>rfl)) Zab))))
  (Zac (Zak (i:=4) nd rfl (Or.inl rfl) (Zam h_divisor hr (by rfl) (Zaa (Zao Zax (pv 2) Zad (λ_ _=>rfl)) (Zaa (Zao Zax (pv 1) Zad (λ_ _=>rfl)) Zab))))
  (Zac (Zak (i:=5) nd rfl (Or.inl rfl) (Zan ZaC (Zan ZbX (Zao Zax (pv 1) Zad (λ_ _=>rfl)) (pv 3)) (Zan ZbX (Zao Zax (pv 2) Zad (λ_ _=>rfl)) (pv 4))))
  (Zae (Zal (ZbU (Zaa (pv 5) (Zaa (Zan ZaC (Zan ZbX (Zao Zax (pv 1) Zad (λ_ _=>rfl)) (pv 4)) (Zan ZbX (Zao Zax (pv 2) Zad (λ_ _=>rfl)) (pv 3))) Zab)))))))),?_⟩
 have hb1:=f1.pos;have hb2:=f2.pos;have hf:=M3.gcd_ne (a:=a1) (b:=b2) ⋯;have hg:=M3.gcd_ne (a:=a2) (b:=b1) ⋯;have gf:Int.gcd a1 b2<=b2.natAbs:=Ud (ZkX hb2) (Ue.mpr (Wb a1 b2));have gg:Int.gcd a2 b1<=b1.natAbs:=Ud (ZkX hb1) (Ue.mpr (Wb a2 b1));have hf1:(Int.gcd a1 b2:Int)≠0/\Bits 4000 (Int.gcd a1 b2:Int):=⟨⋯,lb2.le (by rw[Qj];exact gf)⟩;have hg1:(Int.gcd a2 b1:Int)≠0/\Bits 4000 (Int.gcd a2 b1:Int):=⟨⋯,lb1.le (by rw[Qj];exact gg)⟩;have d1:=M3.fdiv_le (U1 a1 b2) hf1.1;have d2:=M3.fdiv_le (Wb a1 b2) hf1.1;have d3:=M3.fdiv_le (U1 a2 b1) hg1.1;have d4:=M3.fdiv_le (Wb a2 b1) hg1.1;refine ⟨_,rfl,_,_,_,_,rfl,rfl,hp,rfl,_,rfl,_,_,_,_,rfl,rfl,hq,rfl,a1,b2,rfl,?_⟩;refine ⟨_,rfl,_,_,_,_,rfl,rfl,hq,rfl,_,rfl,_,_,_,_,rfl,rfl,hp,rfl,a2,b1,rfl,?_⟩;refine ⟨_,rfl,_,_,_,_,rfl,rfl,hp,rfl,_,rfl,_,_,rfl,rfl,hf1,_,rfl,_,_,_,_,rfl,rfl,hq,rfl,_,rfl,_,_,rfl,rfl,hg1,_,_,rfl,rfl,(la1.le d1).mulT (la2.le d3),?_⟩;refine ⟨_,rfl,_,rfl,_,_,_,_,rfl,rfl,hp,rfl,_,rfl,_,_,rfl,rfl,hg1,_,rfl,_,_,_,_,rfl,rfl,hq,rfl,_,rfl,_,_,rfl,rfl,hf1,_,_,rfl,rfl,((lb1.le d4).up ∅).mulG (lb2.le d2),(by show 2<=sizeLine;decide),λt ht'=>?_⟩;obtain ⟨o2,o3,o4⟩:=M3.times_ok hb1 hb2 f1.cop f2.cop;exact k t _ _ _ (Zag ht' _) Zaf ht' ⟨o2,o3⟩ o4
end
inductive Zfs (CR:Addr) (g:Int->Int->Int) (vs:List V) (H:Hp) (Q:VK) (zE:XK):Prop
 |mk (s:Addr) (p a b:Int) (_:vs=[.ref s,.int a,.int b]) (_:ReA CR p H s) (_:2<=p) (_:a.natAbs<=10^150) (_:b.natAbs<=10^150) (_:Q (.int (g a b%p)) H):Zfs CR g vs H Q zE
section
variable{P:Program}{w:World}{K:ZZfg}{mg:ZZmg}{base:Heap}
theorem ZgG:FnScope ["self","one","other"] ["self","one","other"] (Zah Zc0):=‹2›
theorem Zmy{CR:Addr}(h:HereM K CR "plus" "Rests.plus" Zc0) (cl:Cls K CR) (nP:NoAttr K CR "prime"):HasM P w K mg base CR "plus" 1 ["self","one","other"] [] (Zfs CR λa b=>a+b):=by
 refine h.hasM (λ_ _ F=>F.b3 λ_ _ _ _ _ _ _ _ _=>rfl) λf fd F=>F.ok ZgG (λvs H Q E h=>?_) (λcdv A outer s H vs Q E hr h=>?_)
 ·obtain ⟨_,_,_,_,rfl,_⟩:=h
  rfl
 obtain ⟨sr,p,a,b,rfl,⟨dx,hs⟩,h2,la,lb,k⟩:=h;refine ⟨_,(Zae (Zal (Zan Zbo (Zan ZaM (pv 1) (pv 2)) (Zdv (pv 0) rfl)))),?_⟩;refine ⟨_,rfl,_,rfl,_,_,rfl,rfl,_,rfl,sr,CR,dx,_,_,rfl,hs,cl,nP,Zb3 p,_,_,rfl,rfl,(show p≠0 by omega),?_⟩;show Q (V.int ((a+b).fmod p)) _;rw[Wm _ ⋯];exact k
theorem ZfT:FnScope ["self","one","other"] ["self","one","other"] (Zah ZcD):=‹2›
theorem Zk3{CR:Addr}(h:HereM K CR "times" "Rests.times" ZcD) (cl:Cls K CR) (nP:NoAttr K CR "prime"):HasM P w K mg base CR "times" 1 ["self","one","other"] [] (Zfs CR λa b=>a*b):=by
 refine h.hasM (λ_ _ F=>F.b3 λ_ _ _ _ _ _ _ _ _=>rfl) λf fd F=>F.ok ZfT (λvs H Q E h=>?_) (λcdv A outer s H vs Q E hr h=>?_)
 ·obtain ⟨_,_,_,_,rfl,_⟩:=h
  rfl
 obtain ⟨sr,p,a,b,rfl,⟨dx,hs⟩,h2,la,lb,k⟩:=h;refine ⟨_,(Zae (Zal (Zan Zbo (Zan ZaC (pv 1) (pv 2)) (Zdv (pv 0) rfl)))),?_⟩;refine ⟨_,rfl,_,rfl,_,_,rfl,rfl,Zbt la lb,_,rfl,sr,CR,dx,_,_,rfl,hs,cl,nP,Zb3 p,_,_,rfl,rfl,(show p≠0 by omega),?_⟩;show Q (V.int ((a*b).fmod p)) _;rw[Wm _ ⋯];exact k
end
theorem Zq2{t b:Int}(hb:b≠0):∃c:Int,c=(if b<0 then -(Int.gcd t b:Int) else (Int.gcd t b:Int))/\c≠0/\c.natAbs<=b.natAbs/\Fc (t.fdiv c) (b.fdiv c)/\t.fdiv c*b=t*b.fdiv c/\(t.fdiv c).natAbs<=t.natAbs/\(b.fdiv c).natAbs<=b.natAbs:=by
 have hg:=M3.gcd_ne (a:=t) hb;have gl:Int.gcd t b<=b.natAbs:=Ud ⋯ (Ue.mpr (Wb t b))
 by_cases h:b<0
 ·refine ⟨-(Int.gcd t b:Int),by rw[if_pos h],⋯,⋯,?_⟩;have e1:t.fdiv (-(Int.gcd t b:Int))=(-t).fdiv (Int.gcd t b):=by rw[<-Int.neg_fdiv_neg,Int.neg_neg]
  have e2:b.fdiv (-(Int.gcd t b:Int))=(-b).fdiv (Int.gcd t b):=by rw[<-Int.neg_fdiv_neg,Int.neg_neg]
  have e3:Int.gcd t b=Int.gcd (-t) (-b):=by rw[Int.neg_gcd,Int.gcd_neg]
  obtain ⟨l1,l2,l3,l4,l5⟩:=M3.low (t:=-t) (b:=-b) ⋯;rw[e1,e2,e3];refine ⟨⟨l2,l1⟩,?_,⋯,⋯⟩;rw[U0,Int.neg_mul] at l3;exact Int.neg_inj.mp l3
 ·refine ⟨(Int.gcd t b:Int),by rw[if_neg h],⋯,⋯,?_⟩;obtain ⟨l1,l2,l3,l4,l5⟩:=M3.low (t:=t) (b:=b) ⋯;exact ⟨⟨l2,l1⟩,l3,l4,l5⟩
inductive Zdo (cN:Addr) (vs:List V) (H:Hp) (Q:VK) (E:XK):Prop
 |mk (s:Addr) (t b:Int) (_:vs=[.ref s,.int t,.int b]) (_:b.natAbs<=10^150) (_:(b=0->E (.ref cN) none H)) (_:(b≠0->∀(r:Addr) (x y:Int),H r=none->Fc x y->x*b=t*y->x.natAbs<=t.natAbs->y.natAbs<=b.natAbs->Q (.ref r) (upd H r (.tup [.int x,.int y])))):Zdo cN vs H Q E
section
variable{P:Program}{w:World}{K:ZZfg}{mg:ZZmg}{base:Heap}
theorem sc_Fractions_number:FnScope ["self","top","bottom","common"] ["self","top","bottom"] (Zah ZaO):=‹2›
theorem Zij{cN:Addr}{f T:Addr}{fd:FuncData}{items:Array Value}(F:FunD K "number" "Fractions.number" ZaO f fd T items) (c:ExcC K mg "NoNumber" cN) (h_divisor:Has P w K mg base "divisor" 1 ["one","other"] ZaW):FnOk P w K mg base (CXx P w) 2 f fd ["self","top","bottom"] (Zdo cN):=by
 refine F.okx sc_Fractions_number (λvs H Q E h=>?_) (λcdv A outer s H vs Q E hr h=>?_)
 ·obtain ⟨_,_,_,rfl,_⟩:=h
  rfl
 obtain ⟨sf,t,b,rfl,lb,k0,k⟩:=h;have nd:=sc_Fractions_number.nd;refine ⟨_,(Zac (ZaB (Zar Zby (pv 2) Zad (Zav _)) (Zae (Zca c ZeP rfl (by rfl) (Zaa ZeK Zab))) Zat)
  (Zac (Zak (i:=3) nd rfl (Or.inl rfl) (Zam h_divisor hr (by rfl) (Zaa (pv 1) (Zaa (pv 2) Zab))))
  (Zac (ZaB (Zar Zef (pv 2) Zad (Zav _)) (Zae (Zak (i:=3) nd rfl (Or.inl rfl) (Zds ZbT (pv 3)))) Zat)
  (Zae (Zal (ZbU (Zaa (Zan Zgq (pv 1) (pv 3)) (Zaa (Zan Zgq (pv 2) (pv 3)) Zab)))))))),?_⟩
 refine ⟨_,rfl,rfl,_,rfl,?_⟩;refine Zbx (λz=>⟨(by show 1<=1000;decide),k0 z⟩) (λhb=>?_);refine ⟨_,rfl,_,rfl,t,b,rfl,?_⟩;obtain ⟨c,ec,c0,cl,fc,e,l1,l2⟩:=Zq2 (t:=t) hb;refine ⟨_,rfl,_,_,rfl,rfl,_,rfl,?_⟩;refine Za8 (λhn=>?_) (λhn=>?_)
 ·refine ⟨_,rfl,_,rfl,?_⟩;have ec':c = -(Int.gcd t b:Int):=by rw[ec,if_pos hn]
  refine ⟨_,rfl,_,rfl,_,_,rfl,rfl,(by rw[<-ec'];exact ⟨c0,⋯⟩),_,rfl,_,rfl,_,_,rfl,rfl,(by rw[<-ec'];exact ⟨c0,⋯⟩),(by show 2<=sizeLine;decide),λr hr'=>?_⟩;rw[<-ec'];exact k hb r _ _ hr' fc e l1 l2
 ·have ec':c=(Int.gcd t b:Int):=by rw[ec,if_neg hn]
  refine ⟨_,rfl,_,rfl,_,_,rfl,rfl,(by rw[<-ec'];exact ⟨c0,⋯⟩),_,rfl,_,rfl,_,_,rfl,rfl,(by rw[<-ec'];exact ⟨c0,⋯⟩),(by show 2<=sizeLine;decide),λr hr'=>?_⟩;rw[<-ec'];exact k hb r _ _ hr' fc e l1 l2
theorem Zik{CF cN:Addr}{tk:Tok}(h:HereD K CF "number" "Fractions.number" ZaO #[.int 1 tk]) (c:ExcC K mg "NoNumber" cN) (h_divisor:Has P w K mg base "divisor" 1 ["one","other"] ZaW):HasMX P w K mg base CF "number" 2 ["self","top","bottom"] [.int 1] (Zdo cN) :=
 h.hasMX (ds:=[.int 1 tk]) (.cons ⟨_,rfl⟩ .nil) (λf fd T F=>F.binds λ_ _ _ _ _ _ us hl=>by obtain ⟨_,_,rfl⟩:=Zed (show us.length=2 by simpa using hl);exact ⟨_,rfl,rfl⟩) λf fd T F=>Zij F c h_divisor
end
theorem Zq3{p t b u v r:Int}(hp:2<=p)(h:(1:Int)=b*u+p*v)(hr:r=t*u%p):0<=r/\r<p/\p ∣ r*b-t:=by
 subst hr;refine ⟨Int.emod_nonneg _ ⋯,Int.emod_lt_of_pos _ ⋯,?_⟩;have e:=Int.emod_add_mul_ediv (t*u) p;have e1:t*u%p=t*u-p*(t*u/p):=⋯;refine ⟨-(t*v)-(t*u/p)*b,?_⟩;rw[e1];have e2:t=t*b*u+t*p*v:=by
  have:=congrArg (t * ·) h
  simp only[Uq,Int.mul_add] at this
  rw[W0,W0];exact this
 generalize t*u/p=k at *;rw[Int.sub_mul,Int.mul_sub,U0,W0 p k b];have e3:t*u*b=t*b*u:=by rw[W0,Qv u b,<-W0]
 have e4:p*(t*v)=t*p*v:=by rw[<-W0,Qv p t]
 omega
inductive ZbF (CR cN:Addr) (vs:List V) (H:Hp) (Q:VK) (E:XK):Prop
 |mk (s:Addr) (p t b:Int) (_:vs=[.ref s,.int t,.int b]) (_:ReA CR p H s) (_:M2.Prm p) (_:p<1000000) (_:t.natAbs<=10^140) (_:b.natAbs<=10^100) (_:(p ∣ b->E (.ref cN) none H)) (_:(¬p ∣ b->∀(H':Hp) (r:Int),Same H H'->0<=r->r<p->p ∣ r*b-t->Q (.int r) H')):ZbF CR cN vs H Q E
section
variable{P:Program}{w:World}{K:ZZfg}{mg:ZZmg}{base:Heap}
theorem Zft:FnScope ["self","top","bottom"] ["self","top","bottom"] (Zah Zbj):=‹2›
theorem Zfu{CR cN:Addr}{f T:Addr}{fd:FuncData}{items:Array Value}(F:FunD K "number" "Rests.number" Zbj f fd T items) (cl:Cls K CR) (nP:NoAttr K CR "prime") (c:ExcC K mg "NoNumber" cN) (h_shares:Has P w K mg base "shares" 2 ["one","other"] Zc8):FnOk P w K mg base (CXx P w) 3 f fd ["self","top","bottom"] (ZbF CR cN):=by
 refine F.okx Zft (λvs H Q E h=>?_) (λcdv A outer s H vs Q E hr h=>?_)
 ·obtain ⟨_,_,_,_,rfl,_⟩:=h
  rfl
 obtain ⟨sr,p,t,b,rfl,⟨dx,hs⟩,pr,lp,lt,lb,k0,k⟩:=h;have h2:=pr.1;refine ⟨_,(Zac (ZaB (Zar Zby (Zan Zbo (pv 2) (Zdv (pv 0) rfl)) Zad (Zav _)) (Zae (Zca c ZeP rfl (by rfl) (Zaa ZeK Zab))) Zat)
  (Zae (Zal (Zan Zbo (Zan ZaC (pv 1) (Zao Zax (Zam h_shares hr (by rfl) (Zaa (pv 2) (Zaa (Zdv (pv 0) rfl) Zab))) Zad (λ_ _=>rfl))) (Zdv (pv 0) rfl))))),?_⟩
 refine ⟨_,rfl,_,rfl,sr,CR,dx,_,_,rfl,hs,cl,nP,Zb3 p,_,_,rfl,rfl,(show p≠0 by omega),rfl,_,rfl,?_⟩;refine Zbx (λz=>⟨(by show 1<=1000;decide),k0 ((M2.fmod_dvd ⋯).mp z)⟩) (λhb=>?_);have hb':¬p ∣ b:=λz=>hb ((M2.fmod_dvd ⋯).mpr z);have g1:=M2.prm_gcd pr hb';refine ⟨_,rfl,_,rfl,_,rfl,sr,CR,dx,_,_,rfl,hs,cl,nP,Zb3 p,b,p,rfl,lb,⋯,λq H1 u v S hq e bu bv=>?_⟩;refine ⟨_,_,_,_,rfl,rfl,SqT.of hq,rfl,_,_,rfl,rfl,Zbt ⋯ ⋯,_,rfl,sr,CR,dx,_,_,rfl,S _ _ hs,cl,nP,Zb3 p,_,_,rfl,rfl,(show p≠0 by omega),?_⟩;rw[g1] at e;obtain ⟨r0,r1,r2⟩:=Zq3 (p:=p) (t:=t) (b:=b) (r:=t*u%p) h2 e rfl;show Q (V.int ((t*u).fmod p)) _;rw[Wm _ ⋯];exact k hb' H1 _ S r0 r1 r2
theorem ZjU{CR cN:Addr}{tk:Tok}(h:HereD K CR "number" "Rests.number" Zbj #[.int 1 tk]) (cl:Cls K CR) (nP:NoAttr K CR "prime") (c:ExcC K mg "NoNumber" cN) (h_shares:Has P w K mg base "shares" 2 ["one","other"] Zc8):HasMX P w K mg base CR "number" 3 ["self","top","bottom"] [] (ZbF CR cN) :=
 h.hasMX (ds:=[]) .nil (λf fd T F=>F.binds λ_ _ _ _ _ _ us hl=>by obtain ⟨_,_,_,rfl⟩:=Zdm (show us.length=3 by simpa using hl);exact ⟨_,rfl,rfl⟩) λf fd T F=>Zfu F cl nP c h_shares
theorem Zil{CR cN:Addr}{tk:Tok}(h:HereD K CR "number" "Rests.number" Zbj #[.int 1 tk]) (cl:Cls K CR) (nP:NoAttr K CR "prime") (c:ExcC K mg "NoNumber" cN) (h_shares:Has P w K mg base "shares" 2 ["one","other"] Zc8):HasMX P w K mg base CR "number" 3 ["self","top","bottom"] [.int 1] (ZbF CR cN) :=
 h.hasMX (ds:=[.int 1 tk]) (.cons ⟨_,rfl⟩ .nil) (λf fd T F=>F.binds λ_ _ _ _ _ _ us hl=>by obtain ⟨_,_,rfl⟩:=Zed (show us.length=2 by simpa using hl);exact ⟨_,rfl,rfl⟩) λf fd T F=>Zfu F cl nP c h_shares
end
inductive Zeo (K:ZZfg) (CF:Addr) (vs:List V) (H:Hp) (Q:VK) (zE:XK):Prop
 |mk (s p q:Addr) (a1 b1 a2 b2:Int) (_:vs=[.ref s,.ref p,.ref q]) (_:FrA CF H s) (_:SqT K H p [.int a1,.int b1]) (_:SqT K H q [.int a2,.int b2]) (_:Fc a1 b1) (_:Fc a2 b2) (_:Bits 1000000 a1) (_:Bits 4000 b1) (_:Bits 1000000 a2) (_:Bits 4000 b2) (_:∀(t:Addr) (H':Hp) (x y:Int),Same H H'->H' t=some (.tup [.int x,.int y])->H t=none->Fc x y->x*(b1*b2)=(a1*b2+(-a2)*b1)*y->Q (.ref t) H'):Zeo K CF vs H Q zE
section
variable{P:Program}{w:World}{K:ZZfg}{mg:ZZmg}{base:Heap}
theorem ZdK:FnScope ["self","one","other"] ["self","one","other"] (Zah ZbB):=‹2›
theorem ZjV{CF:Addr}(h:HereM K CF "minus" "Fractions.minus" ZbB) (cl:Cls K CF) (hM:HasM P w K mg base CF "plus" 2 ["self","one","other"] [] (Zd0 K CF)):HasM P w K mg base CF "minus" 3 ["self","one","other"] [] (Zeo K CF):=by
 refine h.hasM (λ_ _ F=>F.b3 λ_ _ _ _ _ _ _ _ _=>rfl) λf fd F=>F.ok ZdK (λvs H Q E h=>?_) (λcdv A outer s H vs Q E hr h=>?_)
 ·obtain ⟨_,_,_,_,_,_,_,rfl,_⟩:=h
  rfl
 obtain ⟨sf,p,q,a1,b1,a2,b2,rfl,⟨dx,hs⟩,hp,hq,f1,f2,la1,lb1,la2,lb2,k⟩:=h;refine ⟨_,(Zae (Zal (Zaz (pv 0) hr (Zaa (pv 1) (Zaa (ZbU (Zaa (Zds ZbT (Zao Zax (pv 2) Zad (λ_ _=>rfl))) (Zaa (Zao Zax (pv 2) Zad (λ_ _=>rfl)) Zab))) Zab))))),?_⟩;refine ⟨_,rfl,_,_,_,_,_,_,_,rfl,hs,cl,hM,rfl,_,rfl,_,rfl,_,_,_,_,rfl,rfl,hq,rfl,_,rfl,_,rfl,_,_,_,_,rfl,rfl,hq,rfl,(by show 2<=sizeLine;decide),λr hr'=>?_⟩;have S:=Zag hr' (.tup [.int (-a2),.int b2]);refine ⟨sf,p,r,a1,b1,-a2,b2,rfl,⟨dx,S _ _ hs⟩,S.tup hp,SqT.of Zaf,f1,⟨f2.pos,by rw[Int.neg_gcd];exact f2.cop⟩,la1,lb1,la2.le ⋯,lb2,λt H' x y S' ht hn fc e=>?_⟩;exact k t H' x y (S.trans S') ht (by
  cases z:H t with
  |none=>rfl
  |some o=>rw[S t o z] at hn;cases hn) fc e
theorem ZfU:FnScope ["self","one","other"] ["self","one","other"] (Zah ZcC):=‹2›
theorem Zk4{CR:Addr}(h:HereM K CR "minus" "Rests.minus" ZcC) (cl:Cls K CR) (nP:NoAttr K CR "prime"):HasM P w K mg base CR "minus" 1 ["self","one","other"] [] (Zfs CR λa b=>a-b):=by
 refine h.hasM (λ_ _ F=>F.b3 λ_ _ _ _ _ _ _ _ _=>rfl) λf fd F=>F.ok ZfU (λvs H Q E h=>?_) (λcdv A outer s H vs Q E hr h=>?_)
 ·obtain ⟨_,_,_,_,rfl,_⟩:=h
  rfl
 obtain ⟨sr,p,a,b,rfl,⟨dx,hs⟩,h2,la,lb,k⟩:=h;refine ⟨_,(Zae (Zal (Zan Zbo (Zan Zbe (pv 1) (pv 2)) (Zdv (pv 0) rfl)))),?_⟩;refine ⟨_,rfl,_,rfl,_,_,rfl,rfl,_,rfl,sr,CR,dx,_,_,rfl,hs,cl,nP,Zb3 p,_,_,rfl,rfl,(show p≠0 by omega),?_⟩;show Q (V.int ((a-b).fmod p)) _;rw[Wm _ ⋯];exact k
end
inductive ZgH (K:ZZfg) (cN:Addr) (vs:List V) (H:Hp) (Q:VK) (E:XK):Prop
 |mk (s p:Addr) (a b:Int) (_:vs=[.ref s,.ref p]) (_:SqT K H p [.int a,.int b]) (_:Fc a b) (_:(a=0->E (.ref cN) none H)) (_:(a≠0->∀(r:Addr) (x y:Int),H r=none->Fc x y->x*a=b*y->x.natAbs=b.natAbs->y.natAbs=a.natAbs->Q (.ref r) (upd H r (.tup [.int x,.int y])))):ZgH K cN vs H Q E
section
variable{P:Program}{w:World}{K:ZZfg}{mg:ZZmg}{base:Heap}
theorem Zep:FnScope ["self","one"] ["self","one"] (Zah ZbO):=‹2›
theorem Zmz{CF cN:Addr}(h:HereM K CF "back" "Fractions.back" ZbO) (c_NoNumber:ExcC K mg "NoNumber" cN):HasMX P w K mg base CF "back" 1 ["self","one"] [] (ZgH K cN):=by
 refine h.hasMX (λ_ _ F=>F.b2 λ_ _ _ _ _ _ _ _=>rfl) λf fd F=>F.okx Zep (λvs H Q E h=>?_) (λcdv A outer s H vs Q E hr h=>?_)
 ·obtain ⟨_,_,_,_,rfl,_⟩:=h
  rfl
 obtain ⟨sf,p,a,b,rfl,hp,fc,k0,k⟩:=h;have hb:=fc.pos;refine ⟨_,(Zac (ZaB (Zar Zby (Zao Zax (pv 1) Zad (λ_ _=>rfl)) Zad (Zav _)) (Zae (Zca c_NoNumber ZeP rfl (by rfl) (Zaa ZeK Zab))) Zat)
  (Zac (ZaB (Zar Zef (Zao Zax (pv 1) Zad (λ_ _=>rfl)) Zad (Zav _)) (Zae (Zal (ZbU (Zaa (Zds ZbT (Zao Zax (pv 1) Zad (λ_ _=>rfl))) (Zaa (Zds ZbT (Zao Zax (pv 1) Zad (λ_ _=>rfl))) Zab))))) Zat)
  (Zae (Zal (ZbU (Zaa (Zao Zax (pv 1) Zad (λ_ _=>rfl)) (Zaa (Zao Zax (pv 1) Zad (λ_ _=>rfl)) Zab))))))),?_⟩
 refine ⟨_,rfl,_,_,_,_,rfl,rfl,hp,rfl,rfl,_,rfl,?_⟩;refine Zbx (λz=>⟨(by show 1<=1000;decide),k0 z⟩) (λha=>?_);refine ⟨_,rfl,_,_,_,_,rfl,rfl,hp,rfl,_,_,rfl,rfl,_,rfl,?_⟩;refine Za8 (λhn=>?_) (λhn=>?_)
 ·refine ⟨_,rfl,_,_,_,_,rfl,rfl,hp,rfl,_,rfl,_,rfl,_,_,_,_,rfl,rfl,hp,rfl,_,rfl,(by show 2<=sizeLine;decide),λr hr'=>?_⟩;refine k ha r (-b) (-a) hr' ⟨⋯,?_⟩ (by rw[Int.neg_mul,U0]) ⋯ ⋯;rw[Int.neg_gcd,Int.gcd_neg,Int.gcd_comm];exact fc.cop
 ·refine ⟨_,rfl,_,_,_,_,rfl,rfl,hp,rfl,_,rfl,_,_,_,_,rfl,rfl,hp,rfl,(by show 2<=sizeLine;decide),λr hr'=>?_⟩;exact k ha r b a hr' ⟨⋯,by rw[Int.gcd_comm];exact fc.cop⟩ rfl rfl rfl
end
inductive ZgI (CR cN:Addr) (vs:List V) (H:Hp) (Q:VK) (E:XK):Prop
 |mk (s:Addr) (p a:Int) (_:vs=[.ref s,.int a]) (_:ReA CR p H s) (_:M2.Prm p) (_:p<1000000) (_:a.natAbs<=10^100) (_:(p ∣ a->E (.ref cN) none H)) (_:(¬p ∣ a->∀(H':Hp) (r:Int),Same H H'->0<=r->r<p->p ∣ r*a-1->Q (.int r) H')):ZgI CR cN vs H Q E
section
variable{P:Program}{w:World}{K:ZZfg}{mg:ZZmg}{base:Heap}
theorem ZgJ:FnScope ["self","one"] ["self","one"] (Zah Zc1):=‹2›
theorem ZmA{CR cN:Addr}(h:HereM K CR "back" "Rests.back" Zc1) (cl:Cls K CR) (hN:HasMX P w K mg base CR "number" 3 ["self","top","bottom"] [] (ZbF CR cN)):HasMX P w K mg base CR "back" 4 ["self","one"] [] (ZgI CR cN):=by
 refine h.hasMX (λ_ _ F=>F.b2 λ_ _ _ _ _ _ _ _=>rfl) λf fd F=>F.okx ZgJ (λvs H Q E h=>?_) (λcdv A outer s H vs Q E hr h=>?_)
 ·obtain ⟨_,_,_,rfl,_⟩:=h
  rfl
 obtain ⟨sr,p,a,rfl,⟨dx,hs⟩,pr,lp,la,k0,k⟩:=h;refine ⟨_,(Zae (Zal (ZaI (pv 0) Zff hr (Zaa Zad (Zaa (pv 1) Zab))))),?_⟩;exact ⟨_,rfl,sr,CR,dx,_,_,_,_,rfl,hs,cl,hN,Zc7 p ∅,_,rfl,sr,p,1,a,rfl,⟨dx,hs⟩,pr,lp,∅,la,k0,k⟩
end
inductive Zeq (K:ZZfg) (CF:Addr) (vs:List V) (H:Hp) (Q:VK) (zE:XK):Prop
 |mk (s p:Addr) (a b:Int) (_:vs=[.ref s,.ref p]) (_:SqT K H p [.int a,.int b]) (_:Q (.bl (decide (a=0))) H):Zeq K CF vs H Q zE
section
variable{P:Program}{w:World}{K:ZZfg}{mg:ZZmg}{base:Heap}
theorem ZcW:FnScope ["self","one"] ["self","one"] (Zah Za9):=‹2›
theorem ZjW{CF:Addr}(h:HereM K CF "is_nought" "Fractions.is_nought" Za9):HasM P w K mg base CF "is_nought" 1 ["self","one"] [] (Zeq K CF):=by
 refine h.hasM (λ_ _ F=>F.b2 λ_ _ _ _ _ _ _ _=>rfl) λf fd F=>F.ok ZcW (λvs H Q E h=>?_) (λcdv A outer s H vs Q E hr h=>?_)
 ·obtain ⟨_,_,_,_,rfl,_⟩:=h
  rfl
 obtain ⟨sf,p,a,b,rfl,hp,k⟩:=h;refine ⟨_,(Zae (Zal (Zcg Zby (Zao Zax (pv 1) Zad (λ_ _=>rfl)) Zad (Zav _)))),?_⟩;refine ⟨_,rfl,_,_,_,_,rfl,rfl,hp,rfl,rfl,?_⟩;rw[Zh6];exact k
end
inductive Zer (vs:List V) (H:Hp) (Q:VK) (zE:XK):Prop
 |mk (s:Addr) (a:Int) (_:vs=[.ref s,.int a]) (_:Q (.bl (decide (a=0))) H):Zer vs H Q zE
section
variable{P:Program}{w:World}{K:ZZfg}{mg:ZZmg}{base:Heap}
theorem Zd1:FnScope ["self","one"] ["self","one"] (Zah ZbD):=‹2›
theorem ZjX{CR:Addr}(h:HereM K CR "is_nought" "Rests.is_nought" ZbD):HasM P w K mg base CR "is_nought" 1 ["self","one"] [] Zer:=by
 refine h.hasM (λ_ _ F=>F.b2 λ_ _ _ _ _ _ _ _=>rfl) λf fd F=>F.ok Zd1 (λvs H Q E h=>?_) (λcdv A outer s H vs Q E hr h=>?_)
 ·obtain ⟨_,_,rfl,_⟩:=h
  rfl
 obtain ⟨sf,a,rfl,k⟩:=h;refine ⟨_,(Zae (Zal (Zcg Zby (pv 1) Zad (Zav _)))),?_⟩;refine ⟨_,rfl,rfl,?_⟩;rw[Zh6];exact k
end
theorem Zfv(N:Int){D:Int}(hD:0<D):(Rat.divInt N D).num*D=N*(Rat.divInt N D).den:=by
 have h:=W3 (Rat.divInt N D);have hd:=(Zbf (Rat.divInt N D)).pos;have:=(W9 (n₁:=(Rat.divInt N D).num) (d₁:=((Rat.divInt N D).den:Int)) (n₂:=N) (d₂:=D) ⋯ ⋯).mp h;exact this
theorem Zim{a b c:Int}(h:a ∣ b*c)(g:Int.gcd a b=1):a ∣ c:=by
 rw[<-Ue] at h ⊢;rw[Qr] at h;exact Nat.Coprime.dvd_of_dvd_mul_left g h
theorem Zb4(N:Int){D:Int}(hD:0<D):((Rat.divInt N D).den:Int) ∣ D/\(Rat.divInt N D).num ∣ N:=by
 have e:=Zfv N hD;have c:=(Zbf (Rat.divInt N D)).cop;generalize (Rat.divInt N D).num=n at *;generalize ((Rat.divInt N D).den:Int)=d at *;refine ⟨?_,?_⟩
 ·refine Zim (b:=n) ⟨N,?_⟩ (by rw[Int.gcd_comm];exact c);rw[e,Qv]
 ·refine Zim (b:=d) ⟨D,?_⟩ c;rw[e,Qv]
theorem Zbd{a b:Int}(h:a ∣ b)(hb:b≠0):a.natAbs<=b.natAbs:=Ud ⋯ (Ue.mpr h)
theorem Zja{n:Nat}{a b:Int}(h:a ∣ b)(hb:Bits n b)(hz:b=0->a=0):Bits n a:=by
 by_cases z:b=0
 ·rw[hz z];exact Qf _
 ·exact hb.le (Zbd h z)
theorem Zjb(N:Int){D:Int}(hD:0<D)(z:N=0):(Rat.divInt N D).num=0:=by
 subst z;have e:=Zfv 0 hD;rw[Int.zero_mul] at e;rcases Int.mul_eq_zero.mp e with h|h
 ·exact h
 ·omega
def KdX(CF CR:Addr)(κ:KX)(H:Hp)(s:Addr):Prop:=match κ with
 | .q=>FrA CF H s
 | .r p _=>ReA CR p H s
theorem KdX.same{CF CR:Addr}{κ:KX}{H H':Hp}{k:Addr}(h:KdX CF CR κ H k)(S:Same H H'):KdX CF CR κ H' k:=by
 cases κ with
 |q=>obtain ⟨dx,h⟩:=h;exact ⟨dx,S _ _ h⟩
 |r p hp=>obtain ⟨dx,h⟩:=h;exact ⟨dx,S _ _ h⟩
theorem ZpP{CF CR:Addr}{p:Int}{H:Hp}{s:Addr}(h:KdA CF CR p H s):∃κ:KX,κ.P=p/\KdX CF CR κ H s:=by
 rcases h with ⟨rfl,h⟩|⟨pr,lp,h⟩
 ·exact ⟨.q,rfl,h⟩
 ·have h2:=pr.1;have e:((p.toNat:Nat):Int)=p:=⋯;refine ⟨.r p.toNat ⟨by rw[e];exact pr,⋯⟩,e,?_⟩;show ReA CR ((p.toNat:Nat):Int) H s;rw[e];exact h
abbrev B1(κ:KX)(x:κ.F):Prop:=Bd κ 1000000 4000 x
theorem Za4{p:Nat}(h:PrN p)(x:Fin p):((x.val:Int)).natAbs<=10^150:=by
 have:=x.isLt;have:=h.lt;exact Q0 (show _<=1000000 by omega) ∅
def ZfV(P:Program)(w:World)(K:ZZfg)(mg:ZZmg)(base:Heap)(CF CR:Addr)(m:Str)(g:(κ:KX)->κ.F->κ.F->κ.F):Prop :=
 ∀(κ:KX) (H:Hp) (s:Addr),KdX CF CR κ H s->∃C dx fs ps dvs sp,H s=some (.ins C dx fs)/\Cls K C/\HasM P w K mg base C m 2 ps dvs sp/\fs.lookup m=none/\dvs=[] ∧
  ∀(H':Hp) (u v:V) (x y:κ.F) (Q:VK),Same H H'->NR κ H' u x->NR κ H' v y->B1 κ x->B1 κ y->(∀t H'',Same H' H''->NR κ H'' t (g κ x y)->Q t H'')->sp [.ref s,u,v] H' Q E0
section
variable{P:Program}{w:World}{K:ZZfg}{mg:ZZmg}{base:Heap}{CF CR:Addr}
theorem Zk5(kd:Kd K mg CF CR)(hF:HasM P w K mg base CF "plus" 2 ["self","one","other"] [] (Zd0 K CF)) (hR:HasM P w K mg base CR "plus" 2 ["self","one","other"] [] (Zfs CR λa b=>a+b)):ZfV P w K mg base CF CR "plus" (λ_ x y=>x+y):=by
 intro κ H s hk
 cases κ with
 |q =>
  obtain ⟨dx,h⟩:=hk;refine ⟨CF,dx,[],_,_,_,h,kd.clF,hF,rfl,rfl,λH' u v x y Q S hu hv bx by' k=>?_⟩;obtain ⟨a,rfl,hu⟩:=hu;obtain ⟨b,rfl,hv⟩:=hv;refine ⟨s,a,b,_,_,_,_,rfl,⟨dx,S _ _ h⟩,SqT.of hu,SqT.of hv,Zbf x,Zbf y,bx.1,bx.2,by'.1,by'.2,λt H'' n d S' ht hn fc e=>?_⟩;obtain ⟨e1,e2⟩:=Zk1 (x:=x) (y:=y) fc e;refine k (.ref t) H'' S' ⟨t,rfl,?_⟩;show H'' t=some (.tup [.int (x+y).num,.int ((x+y).den:Int)]);rw[e1,e2];exact ht
 |r p hp =>
  obtain ⟨dx,h⟩:=hk;refine ⟨CR,dx,fsR p,_,_,_,h,kd.clR,hR,Zc7 _ ∅,rfl,λH' u v x y Q S hu hv _ _ k=>?_⟩;have hu:u = .int x.val:=hu;have hv:v = .int y.val:=hv;subst hu hv;refine ⟨s,p,_,_,rfl,⟨dx,S _ _ h⟩,by have:=hp.two;omega,Za4 hp x,Za4 hp y,k _ H' (Same.refl _) ?_⟩;show V.int (((x.val:Int)+y.val)%p)=V.int ((Fin.val (x+y):Nat):Int);have e:Fin.val (x+y)=(x.val+y.val)%p:=Fin.val_add x y;rw[e,Ww,Int.natCast_add]
theorem ZjY(kd:Kd K mg CF CR)(hF:HasM P w K mg base CF "times" 2 ["self","one","other"] [] (Zen K CF)) (hR:HasM P w K mg base CR "times" 2 ["self","one","other"] [] (Zfs CR λa b=>a*b)):ZfV P w K mg base CF CR "times" (λ_ x y=>x*y):=by
 intro κ H s hk
 cases κ with
 |q =>
  obtain ⟨dx,h⟩:=hk;refine ⟨CF,dx,[],_,_,_,h,kd.clF,hF,rfl,rfl,λH' u v x y Q S hu hv bx by' k=>?_⟩;obtain ⟨a,rfl,hu⟩:=hu;obtain ⟨b,rfl,hv⟩:=hv;refine ⟨s,a,b,_,_,_,_,rfl,⟨dx,S _ _ h⟩,SqT.of hu,SqT.of hv,Zbf x,Zbf y,bx.1,bx.2,by'.1,by'.2,λt H'' n d S' ht hn fc e=>?_⟩;obtain ⟨e1,e2⟩:=Zii (x:=x) (y:=y) fc e;refine k (.ref t) H'' S' ⟨t,rfl,?_⟩;show H'' t=some (.tup [.int (x*y).num,.int ((x*y).den:Int)]);rw[e1,e2];exact ht
 |r p hp =>
  obtain ⟨dx,h⟩:=hk;refine ⟨CR,dx,fsR p,_,_,_,h,kd.clR,hR,Zc7 _ ∅,rfl,λH' u v x y Q S hu hv _ _ k=>?_⟩;have hu:u = .int x.val:=hu;have hv:v = .int y.val:=hv;subst hu hv;refine ⟨s,p,_,_,rfl,⟨dx,S _ _ h⟩,by have:=hp.two;omega,Za4 hp x,Za4 hp y,k _ H' (Same.refl _) ?_⟩;show V.int (((x.val:Int)*y.val)%p)=V.int ((Fin.val (x*y):Nat):Int);have e:Fin.val (x*y)=(x.val*y.val)%p:=Fin.val_mul x y;rw[e,Ww,W1]
end
end My
namespace L2
open PySem PySem.Spec PyProof.Rows
section
variable{X:Cx}
theorem Zjc:OpR X (binaryOp .FloorDiv) (rI (λ_ j=>j≠0/\Bits 8000 j) λi j => .int (i.fdiv j)):=opI λ_ _ _ _ _ _ _ hc q=>floordiv_int hc.1 q (.inl (PyProof.noPylong_of_log2 (Ua (hc.2.log hc.1) ∅)))
end
end L2
namespace My
open PySem L2 PyProof.Rows
section
variable{κ:KX}
def RowsX(κ:KX)(H:Hp)(as:ZZla)(R:ZZll κ):Prop:=as.length=R.length/\∀(i:Nat) a f,as[i]?=some a->R[i]?=some f->∃xs,H a=some (.lst xs)/\AllG (NR κ H) xs f
def AllR(Pr:κ.F->Prop)(R:ZZll κ):Prop:=∀f∈R,∀x∈f,Pr x
theorem RowsX.same{H H':Hp}{as:ZZla}{R:ZZll κ}(h:RowsX κ H as R)(S:Same H H'):RowsX κ H' as R :=
 ⟨h.1,λi a f ha hf=>let ⟨xs,hx,al⟩:=h.2 i a f ha hf;⟨xs,S _ _ hx,al.mono λ_ _ n=>n.same S⟩⟩
theorem RowsX.off{H H':Hp}{t:Addr}{as:ZZla}{R:ZZll κ}{ys:List V}(h:RowsX κ H as R)(n:t∉as)(ht:H t=some (.lst ys))(O:Off [t] H H'):RowsX κ H' as R :=
 ⟨h.1,λi a f ha hf=>let ⟨xs,hx,al⟩:=h.2 i a f ha hf;⟨xs,O _ _ (λm=>n (by rw[<-Q6.mp m];exact Qc ha)) hx,al.mono λ_ _ n=>n.off ht O⟩⟩
theorem RowsX.get{H:Hp}{as:ZZla}{R:ZZll κ}(h:RowsX κ H as R){i:Nat}(hi:i<R.length):∃a xs,as[i]?=some a/\H a=some (.lst xs)/\AllG (NR κ H) xs R[i]:=by
 have l:=h.1;obtain ⟨xs,hx,al⟩:=h.2 i (as[i]'⋯) R[i] (Q4 ⋯) (Q4 hi);exact ⟨_,xs,Q4 ⋯,hx,al⟩
theorem RowsX.set{H:Hp}{as:ZZla}{R:ZZll κ}(h:RowsX κ H as R)(i:Nat){a:Addr}{xs:List V}{f:ZZlk κ}(hx:H a=some (.lst xs))(al:AllG (NR κ H) xs f):RowsX κ H (as.set i a) (R.set i f):=by
 have l:=h.1;refine ⟨by rw[W6,W6,l],λj b g hb hg=>?_⟩;rw[Ux] at hb hg
 split at hb
 ·rename_i e
  rw[if_pos e] at hg
  split at hb
  ·rename_i hl
   rw[if_pos ⋯] at hg
   cases hb;cases hg;exact ⟨xs,hx,al⟩
  ·cases hb
 ·rename_i e
  rw[if_neg e] at hg;exact h.2 j b g hb hg
inductive Tn (κ:KX) where
 |swap (i j:Int)
 |scale (i:Int) (c:κ.F)
 |add (i j:Int) (c:κ.F)
def TR(κ:KX)(H:Hp)(v:V)(t:Tn κ):Prop:=match t with
 | .swap i j=>∃a,v = .ref a/\H a=some (.tup [.str "swap", .int i,.int j])
 | .scale i c=>∃a u,v = .ref a/\H a=some (.tup [.str "scale", .int i,u])/\NR κ H u c
 | .add i j c=>∃a u,v = .ref a/\H a=some (.tup [.str "add", .int i,.int j,u])/\NR κ H u c
def Tn.ok(n:Nat):Tn κ->Prop
 | .swap i j=>(0<=i/\i<n)/\(0<=j/\j<n)/\i≠j
 | .scale i c=>(0<=i/\i<n)/\c≠0
 | .add i j _=>(0<=i/\i<n)/\(0<=j/\j<n)/\i≠j
def Tn.bd:Tn κ->Prop
 | .swap _ _=>True
 | .scale _ c=>B1 κ c
 | .add _ _ c=>B1 κ c
noncomputable def doT(t:Tn κ)(R:ZZll κ):ZZll κ:=match t with
 | .swap i j=>(R.set i.toNat (R.getD j.toNat [])).set j.toNat (R.getD i.toNat [])
 | .scale i c=>R.set i.toNat ((R.getD i.toNat []).map (c * ·))
 | .add i j c=>R.set i.toNat (List.zipWith (· + ·) (R.getD i.toNat []) ((R.getD j.toNat []).map (c * ·)))
theorem ZgK(t:Tn κ)(R:ZZll κ):(doT t R).length=R.length:=by
 cases t <;> simp[doT]
end
inductive ZbK (CF CR:Addr) (vs:List V) (H:Hp) (Q:VK) (zE:XK):Prop
 |mk (κ:KX) (s r:Addr) (cv:V) (c:κ.F) (xs:List V) (f:ZZlk κ) (_:vs=[.ref s,cv,.ref r]) (_:KdX CF CR κ H s) (_:NR κ H cv c) (_:H r=some (.lst xs)) (_:AllG (NR κ H) xs f) (_:B1 κ c) (_:(∀x∈f,B1 κ x)) (_:f.length<=1000) (_:∀(H':Hp) (D:Addr) (ys:List V),Same H H'->H D=none->H' D=some (.lst ys)->AllG (NR κ H') ys (f.map (c * ·))->Q (.ref D) H'):ZbK CF CR vs H Q zE
inductive Zc9 (CF CR:Addr) (vs:List V) (H:Hp) (Q:VK) (zE:XK):Prop
 |mk (κ:KX) (s r1 r2:Addr) (xs ys:List V) (f g:ZZlk κ) (_:vs=[.ref s,.ref r1,.ref r2]) (_:KdX CF CR κ H s) (_:H r1=some (.lst xs)) (_:H r2=some (.lst ys)) (_:AllG (NR κ H) xs f) (_:AllG (NR κ H) ys g) (_:(∀x∈f,B1 κ x)) (_:(∀x∈g,B1 κ x)) (_:f.length<=1000) (_:∀(H':Hp) (D:Addr) (zs:List V),Same H H'->H D=none->H' D=some (.lst zs)->AllG (NR κ H') zs (List.zipWith (· + ·) f g)->Q (.ref D) H'):Zc9 CF CR vs H Q zE
theorem Zfw{p:Prop}[Decidable p]{A B:Prop}(h:p)(k:A):if decide p=true then A else B:=by rw[if_pos (decide_eq_true h)];exact k
theorem Zk6{p:Prop}[Decidable p]{A B:Prop}(h:¬p)(k:B):if decide p=true then A else B:=by rw[if_neg (by simpa using h)];exact k
theorem Zoz{p:Prop}[Decidable p]{A B:Prop}(h:¬p)(k:A):if (!decide p)=true then A else B:=by rw[if_pos (by simpa using h)];exact k
theorem ZpQ{p:Prop}[Decidable p]{A B:Prop}(h:p)(k:B):if (!decide p)=true then A else B:=by rw[if_neg (by simpa using h)];exact k
def Tn.pre{κ:KX}(R:ZZll κ):Tn κ->Prop
 | .swap _ _=>True
 | .scale i c=>B1 κ c/\∀x∈R.getD i.toNat [],B1 κ x
 | .add i j c=>B1 κ c/\(∀x∈R.getD i.toNat [],B1 κ x)/\∀y∈R.getD j.toNat [],B1 κ y/\B1 κ (c*y)
def ZnA(P:Program)(w:World)(K:ZZfg)(mg:ZZmg)(base:Heap)(CF CR:Addr):Prop :=
 ∀(κ:KX) (H:Hp) (s:Addr),KdX CF CR κ H s->∃C dx fs ps dvs sp,H s=some (.ins C dx fs)/\Cls K C/\HasM P w K mg base C "is_nought" 2 ps dvs sp/\fs.lookup ("is_nought":Str)=none/\dvs=[] ∧
  ∀(u:V) (x:κ.F) (Q:VK),NR κ H u x->(∀b:Bool,(b=true↔x=0)->Q (.bl b) H)->sp [.ref s,u] H Q E0
noncomputable def Zd2{κ:KX}(ts:List (Tn κ))(R:ZZll κ):ZZll κ:=ts.foldl (λR t=>doT t R) R
theorem ZgL{κ:KX}(ts:List (Tn κ)):∀R:ZZll κ,(Zd2 ts R).length=R.length:=by
 induction ts with
 |nil=>exact λR=>rfl
 |cons t ts ih=>exact λR=>by show (Zd2 ts (doT t R)).length=_;rw[ih,ZgK]
theorem Zk7{κ:KX}(ts:List (Tn κ))(t:Tn κ)(R:ZZll κ):Zd2 (ts++[t]) R=doT t (Zd2 ts R):=by
 unfold Zd2;rw[List.foldl_append]
 rfl
theorem Zcc{α:Type}{R:List (List α)}{i:Nat}{f:List α}(h:R[i]?=some f):R.getD i []=f:=by rw[Q1,h];rfl
def Wid{α:Type}(m:Nat)(R:List (List α)):Prop:=∀f∈R,f.length=m
theorem Wid.get{α:Type}{m:Nat}{R:List (List α)}(h:Wid m R){i:Nat}(hi:i<R.length):(R.getD i []).length=m:=by
 rw[Zcc (Q4 hi)];exact h _ (Ql hi)
theorem Wid.set{α:Type}{m i:Nat}{R:List (List α)}{f:List α}(h:Wid m R)(e:f.length=m):Wid m (R.set i f):=λg hg=>by
 rcases List.mem_or_eq_of_mem_set hg with hg|rfl
 ·exact h g hg
 ·exact e
theorem Zin{κ:KX}{m:Nat}{t:Tn κ}{R:ZZll κ}(h:Wid m R)(ok:t.ok R.length):Wid m (doT t R):=by
 cases t with
 |swap i j =>
  obtain ⟨hi,hj,_⟩:=ok;exact (h.set (h.get ⋯)).set (h.get ⋯)
 |scale i c =>
  obtain ⟨hi,_⟩:=ok;refine h.set ?_;rw[Q2];exact h.get ⋯
 |add i j c =>
  obtain ⟨hi,hj,_⟩:=ok;refine h.set ?_;rw[Wx,Q2,h.get ⋯,h.get ⋯];exact Nat.min_self m
theorem ZaZ{H H':Hp}{t:Addr}{o:HO}(S:Same H H'):Off [t] H (upd H' t o):=λb u n q=>by
 rw[Zau (λz=>n (by rw[z];exact Q6.mpr rfl))];exact S _ _ q
theorem Zk8{n:Nat}{i:Int}(h0:0<=i)(h:i<n):ixN n i=some i.toNat:=by
 have e:i=((i.toNat:Nat):Int):=⋯;rw[e,Qu];exact ZgF ⋯
theorem RowsX.notin{κ:KX}{H:Hp}{as:ZZla}{R:ZZll κ}{r:Addr}(h:RowsX κ H as R)(n:H r=none):r∉as:=λm=>by
 obtain ⟨i,hi,e⟩:=Uy m;have l:=h.1;obtain ⟨zs,hz,_⟩:=h.2 i r _ (by rw[<-e];exact Q4 hi) (Q4 (show i<R.length by omega));rw[hz] at n;cases n
theorem RowsX.snoc{κ:KX}{H:Hp}{as:ZZla}{R:ZZll κ}{a:Addr}{xs:List V}{f:ZZlk κ}(h:RowsX κ H as R)(hx:H a=some (.lst xs))(al:AllG (NR κ H) xs f):RowsX κ H (as++[a]) (R++[f]):=by
 have l:=h.1;refine ⟨by rw[Qg,Qg,l];rfl,λi b g hb hg=>?_⟩
 by_cases hi:i<as.length
 ·rw[Wh hi] at hb;rw[Wh ⋯] at hg;exact h.2 i b g hb hg
 ·rw[Wo ⋯] at hb hg;rw[<-l] at hg
  cases q:i-as.length with
  |zero=>rw[q] at hb hg;cases hb;cases hg;exact ⟨xs,hx,al⟩
  |succ n=>rw[q] at hb;simp at hb
theorem RowsX.nil{κ:KX}{H:Hp}:RowsX κ H [] []:=⟨rfl,λi a f h=>by simp at h⟩
theorem ZjZ{l:ZZla}{a:Addr}(h:l.Nodup)(n:a∉l):(l++[a]).Nodup:=by
 rw[List.nodup_append];exact ⟨h,by simp,λx hx y hy=>by rw[Q6] at hy;subst hy;exact λz=>n (z ▸ hx)⟩
open PySem L2 PyProof.Rows
def Sz(κ:KX)(n:Nat)(x:κ.F):Prop:=match κ with
 | .q=>(x.den:Int) ∣ 60*12^n/\Bits (200+700*n) x.num
 | .r _ _=>True
def Sc(κ:KX)(x:κ.F):Prop:=match κ with
 | .q=>(x.den:Int) ∣ 12/\Bits 200 x.num
 | .r _ _=>True
theorem Zsh{t b:Int}(hb:0<b):(t.fdiv (Int.gcd t b)=(Rat.divInt t b).num)/\(b.fdiv (Int.gcd t b)=((Rat.divInt t b).den:Int)):=by
 obtain ⟨l1,l2,l3,_,_⟩:=M3.low (t:=t) hb;obtain ⟨e1,e2⟩:=Zk0 (N:=t) (D:=b) ⟨l2,l1⟩ hb l3;exact ⟨e1.symm,e2.symm⟩
inductive Zfx (vs:List V) (H:Hp) (Q:VK) (zE:XK):Prop
 |mk (t b:Int) (_:vs=[.int t,.int b]) (_:0<b) (_:Bits 8000 b) (_:∀r,H r=none->Q (.ref r) (upd H r (.tup [.int (Rat.divInt t b).num,.int ((Rat.divInt t b).den:Int)]))):Zfx vs H Q zE
inductive Zbm (g:(κ:KX)->κ.F->κ.F->κ.F) (vs:List V) (H:Hp) (Q:VK) (zE:XK):Prop
 |mk (κ:KX) (u v:V) (x y:κ.F) (_:vs=[.int κ.P,u,v]) (_:NR κ H u x) (_:NR κ H v y) (_:B1 κ x) (_:B1 κ y) (_:∀H' t,Same H H'->NR κ H' t (g κ x y)->Q t H'):Zbm g vs H Q zE
theorem Zk9{p:Nat}{h:PrN p}:0<(KX.r p h).P:=by have:=h.two;show 0<(p:Int);omega
theorem ZpR{p:Nat}(h:PrN p)(c:Int):∃x:Fin p,(c.fmod (p:Int))=(x.val:Int):=by
 have h2:=h.two;rw[Wm _ ⋯];have e0:=Int.emod_nonneg c (show (p:Int)≠0 by omega);have e1:=Int.emod_lt_of_pos c (show 0<(p:Int) by omega);exact ⟨⟨(c%p).toNat,⋯⟩,by show c%p=(((c%p).toNat:Nat):Int);omega⟩
theorem AllR.snoc{κ:KX}{Pr:κ.F->Prop}{R:ZZll κ}{f:ZZlk κ}(h:AllR Pr R)(g:∀x∈f,Pr x):AllR Pr (R++[f]):=λe he=>by
 rcases Qx.mp he with he|he
 ·exact h e he
 ·rw[Q6.mp he];exact g
theorem Wid.snoc{α:Type}{m:Nat}{R:List (List α)}{f:List α}(h:Wid m R)(e:f.length=m):Wid m (R++[f]):=λg hg=>by
 rcases Qx.mp hg with hg|hg
 ·exact h g hg
 ·rw[Q6.mp hg];exact e
theorem Zio{a b:Int}{A B:Prop}(h:a=b)(k:A):if decide (V.int a=V.int b)=true then A else B:=Zbx (λ_=>k) (λz=>absurd h z)
theorem Zla{a b:Int}{A B:Prop}(h:a≠b)(k:B):if decide (V.int a=V.int b)=true then A else B:=Zbx (λz=>absurd z h) (λ_=>k)
def TSc{κ:KX}:Tn κ->Prop
 | .swap _ _=>True
 | .scale _ c=>Sc κ c
 | .add _ _ c=>Sc κ c
noncomputable abbrev K1(κ:KX):κ.F:=1
noncomputable abbrev K0(κ:KX):κ.F:=0
theorem ZgM{p:Nat}(h:PrN p):Fin.val (K1 (.r p h))=1:=by
 show 1%p=1;exact Nat.mod_eq_of_lt h.two
theorem Ze0{p:Nat}(h:PrN p):Fin.val (K0 (.r p h))=0:=by
 show 0%p=0;exact Nat.zero_mod p
def Zq4{κ:KX}(R:ZZll κ):PyData:=.list (R.map λf => .list (f.map κ.D))
theorem RowsX.rp{κ:KX}{H:Hp}{t:Addr}{as:ZZla}{R:ZZll κ}(h:RowsX κ H as R)(ht:H t=some (.lst (as.map V.ref))):Rp H 3 (.ref t) (Zq4 R):=by
 refine ZhF ht ⟨by rw[Q2,Q2];exact h.1,λi v d hv hd=>?_⟩;obtain ⟨a,ha,rfl⟩:=ZaA hv;rw[Qb] at hd
 cases e:R[i]? with
 |none=>rw[e] at hd;cases hd
 |some f =>
  rw[e] at hd
  cases hd
  obtain ⟨xs,hx,al⟩:=h.2 i a f ha e;exact ZhF hx (al.all2 λ_ _ n=>n.rp)
theorem ZrJ{us:List Value}(h:us.length=5):∃a b c d e,us=[a,b,c,d,e]:=match us,h with| [a,b,c,d,e],_=>⟨a,b,c,d,e,rfl⟩
theorem ZgN{κ:KX}{m:Nat}{ts:List (Tn κ)}:∀ {R:ZZll κ},Wid m R->(∀t∈ts,t.ok R.length)->Wid m (Zd2 ts R):=by
 induction ts with
 |nil=>exact λh _=>h
 |cons t ts ih =>
  intro R h ok;show Wid m (Zd2 ts (doT t R));refine ih (Zin h (ok t (by simp))) λt' ht'=>?_;rw[ZgK];exact ok t' (by simp[ht'])
section
variable{κ:KX}
theorem AllR.getD{Pr:κ.F->Prop}{R:ZZll κ}(h:AllR Pr R)(i:Nat):∀x∈R.getD i [],Pr x:=λx hx=>by
 rw[Q1] at hx
 cases e:R[i]? with
 |none=>rw[e] at hx;cases hx
 |some f=>rw[e] at hx;exact h f (Qc e) x hx
theorem Zfy{α:Type}{f:α->α->α}{z:α}:∀ {a b:List α},z∈List.zipWith f a b->∃x∈a,∃y∈b,z=f x y
 | [],_,h=>by simp at h
 |_::_,[],h=>by simp at h
 |x::a,y::b,h=>by
  rw[List.zipWith_cons_cons] at h;rcases Qe.mp h with rfl|h
  ·exact ⟨x,by simp,y,by simp,rfl⟩
  ·obtain ⟨u,hu,v,hv,e⟩:=Zfy h;exact ⟨u,by simp[hu],v,by simp[hv],e⟩
end
structure TU (κ:KX) (H:Hp) (U:Addr) (n:Nat) (tvs:List V) (ts:List (Tn κ)):Prop where
 l:H U=some (.lst tvs)
 al:AllG (TR κ H) tvs ts
 ok:∀t∈ts,t.ok n
 sc:∀t∈ts,TSc t
 l1:1<=ts.length
 l3:ts.length<=300
 lq:κ = .q->ts.length<=64
theorem Zda(xs:List V)(n:Nat):ZeL xs none (some (n:Int))=xs.take n:=by
 unfold ZeL;rw[HT.sIx_none,List.drop_zero,Uz];rw[HT.sIx_nat,Nat.min_def]
 split
 ·rfl
 ·rw[Wt (Q3 _),Wt ⋯]
theorem Zfz(xs:List V)(n:Nat):ZeL xs (some (n:Int)) none=xs.drop n:=by
 unfold ZeL;rw[HT.sIx_none,HT.sIx_nat]
 by_cases h:n<=xs.length
 ·rw[Nat.min_eq_left h,Wt];rw[W7];omega
 ·rw[Nat.min_eq_right ⋯,List.drop_of_length_le ⋯,List.drop_of_length_le ⋯]
  simp
theorem Ze1{α:Type}[Fd α]{x r:α}(h:x*r=1):r=Fd.inv x:=by
 have hx:x≠0:=λz=>by
  subst z;have e:(0:α)*r=0:=by grind
  rw[e] at h;exact Fd.zne h
 have:=Fd.mul_inv x hx;grind
theorem Zjd{n d:Int}(fc:Fc n d):∃q:Rat,q.num=n/\(q.den:Int)=d:=by
 have hd:=fc.pos;refine ⟨⟨n,d.toNat,⋯,?_⟩,rfl,by show ((d.toNat:Nat):Int)=d;omega⟩;have:=fc.cop;rw[Nat.coprime_iff_gcd_eq_one];have e:Int.gcd n d=Nat.gcd n.natAbs d.natAbs:=rfl;have e2:d.natAbs=d.toNat:=⋯;rw[<-e2];omega
theorem Zlb{q:Rat}{x y:Int}(fc:Fc x y)(e:x*q.num=q.den*y):(Fd.inv q:Rat).num=x/\((Fd.inv q:Rat).den:Int)=y:=by
 obtain ⟨r,e1,e2⟩:=Zjd fc;have m:=Zii (x:=q) (y:=r) (n:=1) (d:=1) ⟨∅,∅⟩ (by rw[e1,e2];have:q.num*x=x*q.num:=Qv _ _;omega);have h1:q*r=1:=by
  rw[<-W3 (q*r),m.1,m.2];rfl
 have:=Ze1 (α:=Rat) h1;rw[<-this];exact ⟨e1,e2⟩
theorem ZoA{x y:Rat}{n d:Int}(fc:Fc n d)(e:n*((x.den:Int)*y.den)=(x.num*y.den+(-y.num)*x.den)*d):(x-y).num=n/\((x-y).den:Int)=d:=by
 have h1:(-y).num = -y.num:=rfl;have h2:(-y).den=y.den:=rfl;have:x-y=x+(-y):=by grind
 rw[this];refine Zk1 (x:=x) (y:=-y) fc ?_;rw[h1,h2];exact e
theorem Zlc{κ:KX}{n m:Nat}{x:κ.F}(h:Bd κ n m x):Bd κ n m (0-x):=by
 cases κ with
 |r p hp=>exact trivial
 |q =>
  have e:(0-x:Rat) = -x:=by grind
  have h1:(-x:Rat).num = -Rat.num x:=rfl;have h2:(-x:Rat).den=Rat.den x:=rfl;refine ⟨?_,?_⟩
  ·show Bits n (0-x:Rat).num;rw[e,h1];exact Bits.le h.1 ⋯
  ·show Bits m ((0-x:Rat).den:Int);rw[e,h2];exact h.2
noncomputable abbrev KX.mulF(κ:KX)(x y:κ.F):κ.F:=x*y
noncomputable abbrev KX.invF(κ:KX)(x:κ.F):κ.F:=Fd.inv x
theorem ZhH{κ:KX}{x r:κ.F}(h:κ.mulF x r=K1 κ):r=κ.invF x:=Ze1 h
def NumV(κ:KX)(t:Int)(x:κ.F):Prop:=match κ with
 | .q=>x.num=t/\x.den=1
 | .r p _=>t.natAbs<=10^140/\(x.val:Int)=t%p
theorem ZfW{κ:KX}:NumV κ 0 0:=by
 cases κ with
 |q=>exact ⟨rfl,rfl⟩
 |r p h=>exact ⟨∅,by show ((Fin.val (K0 (.r p h)):Nat):Int)=_;rw[Ze0];simp⟩
theorem ZdL{κ:KX}:NumV κ 1 1:=by
  cases κ with
  | q=>exact ⟨rfl,rfl⟩
  | r p h=>exact ⟨∅,by
      show ((Fin.val (K1 (.r p h)):Nat):Int)=_;rw[ZgM];have:=h.two;exact (Ul ∅ ⋯).symm⟩
theorem NumV.uniq{κ:KX}{t:Int}{x y:κ.F}(h:NumV κ t x)(h':NumV κ t y):x=y:=by
 cases κ with
 |q =>
  have e1:Rat.num x=Rat.num y:=h.1.trans h'.1.symm;have e2:Rat.den x=Rat.den y:=h.2.trans h'.2.symm;exact Rat.ext e1 e2
 |r p hp =>
  refine Fin.ext ?_;have e:(Fin.val x:Int)=Fin.val y:=h.2.trans h'.2.symm;omega
def ZmB(P:Program)(w:World)(K:ZZfg)(mg:ZZmg)(base:Heap)(CF CR:Addr):Prop :=
 ∀(κ:KX) (H:Hp) (s:Addr),KdX CF CR κ H s->∃C dx fs ps dvs sp,H s=some (.ins C dx fs)/\Cls K C/\HasM P w K mg base C "minus" 3 ps dvs sp/\fs.lookup ("minus":Str)=none/\dvs=[] ∧
  ∀(H':Hp) (u v:V) (x y:κ.F) (Q:VK),Same H H'->NR κ H' u x->NR κ H' v y->B1 κ x->B1 κ y->(∀t H'',Same H' H''->NR κ H'' t (x-y)->Q t H'')->sp [.ref s,u,v] H' Q E0
def ZcL(P:Program)(w:World)(K:ZZfg)(mg:ZZmg)(base:Heap)(CF CR:Addr):Prop :=
 ∀(κ:KX) (H:Hp) (s:Addr),KdX CF CR κ H s->∃C dx fs ps dvs sp,H s=some (.ins C dx fs)/\Cls K C/\HasMX P w K mg base C "number" 3 ps dvs sp/\fs.lookup ("number":Str)=none/\dvs=[.int 1] ∧
  ∀(H':Hp) (t:Int) (x:κ.F) (Q:VK) (E:XK),Same H H'->NumV κ t x->(∀v H'',Same H' H''->NR κ H'' v x->Q v H'')->sp [.ref s,.int t,.int 1] H' Q E
def Zd3(P:Program)(w:World)(K:ZZfg)(mg:ZZmg)(base:Heap)(CF CR:Addr):Prop :=
 ∀(κ:KX) (H:Hp) (s:Addr),KdX CF CR κ H s->∃C dx fs ps dvs sp,H s=some (.ins C dx fs)/\Cls K C/\HasMX P w K mg base C "back" 4 ps dvs sp/\fs.lookup ("back":Str)=none/\dvs=[] ∧
  ∀(H':Hp) (u:V) (x:κ.F) (Q:VK) (E:XK),Same H H'->NR κ H' u x->x≠0->(∀v H'',Same H' H''->NR κ H'' v (Fd.inv x)->Q v H'')->sp [.ref s,u] H' Q E
section
variable{P:Program}{w:World}{K:ZZfg}{mg:ZZmg}{base:Heap}{CF CR cN:Addr}
theorem Zj0(kd:Kd K mg CF CR)(hF:HasM P w K mg base CF "minus" 3 ["self","one","other"] [] (Zeo K CF)) (hR:HasM P w K mg base CR "minus" 3 ["self","one","other"] [] (Zfs CR λa b=>a-b)):ZmB P w K mg base CF CR:=by
 intro κ H s hk
 cases κ with
 |q =>
  obtain ⟨dx,h⟩:=hk;refine ⟨CF,dx,[],_,_,_,h,kd.clF,hF,rfl,rfl,λH' u v x y Q S hu hv bx by' k=>?_⟩;obtain ⟨a,rfl,hu⟩:=hu;obtain ⟨b,rfl,hv⟩:=hv;refine ⟨s,a,b,_,_,_,_,rfl,⟨dx,S _ _ h⟩,SqT.of hu,SqT.of hv,Zbf x,Zbf y,bx.1,bx.2,by'.1,by'.2,λt H'' n d S' ht hn fc e=>?_⟩;obtain ⟨e1,e2⟩:=ZoA (x:=x) (y:=y) fc e;refine k (.ref t) H'' S' ⟨t,rfl,?_⟩;show H'' t=some (.tup [.int (x-y:Rat).num,.int ((x-y:Rat).den:Int)]);rw[e1,e2];exact ht
 |r p hp =>
  obtain ⟨dx,h⟩:=hk;refine ⟨CR,dx,fsR p,_,_,_,h,kd.clR,hR,Zc7 _ ∅,rfl,λH' u v x y Q S hu hv _ _ k=>?_⟩;have hu:u = .int x.val:=hu;have hv:v = .int y.val:=hv;subst hu hv;refine ⟨s,p,_,_,rfl,⟨dx,S _ _ h⟩,by have:=hp.two;omega,Za4 hp x,Za4 hp y,k _ H' (Same.refl _) ?_⟩;show V.int (((x.val:Int)-y.val)%p)=V.int ((Fin.val (x-y):Nat):Int);have e:Fin.val (x-y)=(p-y.val+x.val)%p:=rfl;have ly:=y.isLt;have e2:(((p-y.val+x.val:Nat)):Int)=((x.val:Int)-y.val)+p:=⋯;rw[e,Ww,e2,Int.add_emod_right]
theorem Zip(kd:Kd K mg CF CR)(hF:HasMX P w K mg base CF "number" 3 ["self","top","bottom"] [.int 1] (Zdo cN)) (hR:HasMX P w K mg base CR "number" 3 ["self","top","bottom"] [.int 1] (ZbF CR cN)):ZcL P w K mg base CF CR:=by
 intro κ H s hk
 cases κ with
 |q =>
  obtain ⟨dx,h⟩:=hk;refine ⟨CF,dx,[],_,_,_,h,kd.clF,hF,rfl,rfl,λH' t x Q E S hx k=>⟨s,t,1,rfl,∅,λz=>absurd z ∅,λ_ r n d nr fc e l1 l2=>?_⟩⟩;have y1:d=1:=by
   have:=fc.pos;have l3:d.natAbs<=1:=l2;omega
  subst y1;have x1:n=t:=⋯;subst x1;have e1:Rat.num x=n:=hx.1;have e2:Rat.den x=1:=hx.2;refine k _ _ (Zag nr _) ⟨r,rfl,?_⟩;show upd H' r _ r=some (.tup [.int (Rat.num x),.int ((Rat.den x:Nat):Int)]);rw[e1,e2];exact Zaf
 |r p hp =>
  obtain ⟨dx,h⟩:=hk;have h2:=hp.pr.1;refine ⟨CR,dx,_,_,_,_,h,kd.clR,hR,Zc7 p ∅,rfl,λH' t x Q E S hx k=>⟨s,p,t,1,rfl,⟨dx,S _ _ h⟩,hp.pr,by have:=hp.lt;omega,hx.1,∅,λz=>?_,λ_ H'' r S' r0 r1 rd=>?_⟩⟩
  ·have:=Int.le_of_dvd ∅ z;omega
  ·refine k _ H'' S' ?_;show V.int r=V.int ((Fin.val x:Nat):Int);have e:(Fin.val x:Int)=t%p:=hx.2;rw[e]
   congr 1
   rw[Uq] at rd;have e3:r%p=t%p:=Int.emod_eq_emod_iff_emod_sub_eq_zero.mpr (Uc rd);rw[<-e3];exact (Ul r0 r1).symm
theorem Zld(kd:Kd K mg CF CR)(hF:HasMX P w K mg base CF "back" 4 ["self","one"] [] (ZgH K cN)) (hR:HasMX P w K mg base CR "back" 4 ["self","one"] [] (ZgI CR cN)):Zd3 P w K mg base CF CR:=by
 intro κ H s hk
 cases κ with
 |q =>
  obtain ⟨dx,h⟩:=hk;refine ⟨CF,dx,[],_,_,_,h,kd.clF,hF,rfl,rfl,λH' u x Q E S hu hx k=>?_⟩;obtain ⟨a,rfl,hu⟩:=hu;have hn:Rat.num x≠0:=λz=>hx (Rat.num_eq_zero.mp z);refine ⟨s,a,_,_,rfl,SqT.of hu,Zbf x,λz=>absurd z hn,λ_ r n d nr fc e l1 l2=>?_⟩;obtain ⟨e1,e2⟩:=Zlb (q:=x) fc e;refine k _ _ (Zag nr _) ⟨r,rfl,?_⟩;show upd H' r _ r=some (.tup [.int (Fd.inv x:Rat).num,.int ((Fd.inv x:Rat).den:Int)]);rw[e1,e2];exact Zaf
 |r p hp =>
  obtain ⟨dx,h⟩:=hk;have h2:=hp.two;refine ⟨CR,dx,_,_,_,_,h,kd.clR,hR,Zc7 p ∅,rfl,λH' u x Q E S hu hx k=>?_⟩;have hu:u = .int x.val:=hu;subst hu;have xl:=x.isLt;have x0:x.val≠0:=λz=>hx (show x=K0 (.r p hp) from Fin.ext (by rw[Ze0];exact z));have nd:¬(p:Int) ∣ (x.val:Int):=λz=>by
   have:=Int.le_of_dvd ⋯ z;omega
  refine ⟨s,p,_,rfl,⟨dx,S _ _ h⟩,hp.pr,by have:=hp.lt;omega,Q0 (show _<=1000000 by have:=hp.lt;omega) ∅,λz=>absurd z nd,λ_ H'' r S' r0 r1 rd=>?_⟩;refine k _ H'' S' ?_;have hy:(KX.r p hp).mulF x (⟨r.toNat,⋯⟩:Fin p)=K1 (.r p hp):=by
   refine Fin.ext ?_;show Fin.val ((x:Fin p)*(⟨r.toNat,⋯⟩:Fin p))=Fin.val (K1 (.r p hp));rw[ZgM,Fin.val_mul];show x.val*r.toNat%p=1;have e:((x.val*r.toNat%p:Nat):Int)=((1:Nat):Int):=by
    rw[Ww,W1,Int.toNat_of_nonneg r0];have e3:r*(x.val:Int)%p=1%p:=Int.emod_eq_emod_iff_emod_sub_eq_zero.mpr (Uc rd);rw[Qv,e3];exact Ul ∅ ⋯
   exact_mod_cast e
  have:=ZhH (κ:=.r p hp) hy;show V.int r=V.int ((Fin.val ((KX.r p hp).invF x):Nat):Int);rw[show (KX.r p hp).invF x=_ from this.symm];show V.int r=V.int ((r.toNat:Nat):Int);rw[Int.toNat_of_nonneg r0]
end
theorem ZoB{κ:KX}:B1 κ 0:=by
 cases κ with
 |q=>exact ⟨Bits.of (by show (0:Int).natAbs<_;exact Nat.two_pow_pos _),Bits.of (by show (1:Int).natAbs<_;exact Q8 (show 1<2^1 by decide) (Q7 ∅ ∅))⟩
 |r p h=>trivial
section
variable{κ:KX}
noncomputable def ent(R:ZZll κ)(i j:Nat):κ.F:=(R.getD i []).getD j 0
theorem Za0{α:Type}{R:List (List α)}{i:Nat}{f:List α}(h:i<R.length):(R.set i f).getD i []=f:=Zcc (by rw[Ux,if_pos rfl,if_pos h])
theorem Zbp{α:Type}{R:List (List α)}{i j:Nat}{f:List α}(h:i≠j):(R.set i f).getD j []=R.getD j []:=by
 rw[Q1,Q1,Ux,if_neg h]
theorem ZgO{R:ZZll κ}{i k j:Nat}{f:ZZlk κ}(h:i<R.length):ent (R.set i f) k j=if k=i then f.getD j 0 else ent R k j:=by
 unfold ent
 by_cases e:k=i
 ·subst e;rw[if_pos rfl,Za0 h]
 ·rw[if_neg e,Zbp (Ne.symm e)]
theorem ZgP(f:ZZlk κ)(c:κ.F)(j:Nat):(f.map (c * ·)).getD j 0=c*f.getD j 0:=by
 rw[Q1,Q1,Qb]
 cases f[j]? with
 |none=>show (0:κ.F)=c*0;grind
 |some x=>rfl
theorem ZmC{f g:ZZlk κ}(h:f.length=g.length)(j:Nat):(List.zipWith (· + ·) f g).getD j 0=f.getD j 0+g.getD j 0:=by
 rw[Q1,Q1,Q1,List.getElem?_zipWith]
 by_cases hj:j<f.length
 ·rw[Q4 hj,Q4 ⋯];rfl
 ·rw[U3 ⋯,U3 ⋯];show (0:κ.F)=0+0;grind
theorem ZmD{R:ZZll κ}{a b:Int}(ha:a.toNat<R.length)(hb:b.toNat<R.length)(i j:Nat):ent (doT (.swap a b) R) i j=if i=b.toNat then ent R a.toNat j else if i=a.toNat then ent R b.toNat j else ent R i j:=by
 show ent ((R.set a.toNat (R.getD b.toNat [])).set b.toNat (R.getD a.toNat [])) i j=_;rw[ZgO (by rw[W6];exact hb),ZgO ha]
 rfl
theorem ZhI{R:ZZll κ}{a:Int}{c:κ.F}(ha:a.toNat<R.length)(i j:Nat):ent (doT (.scale a c) R) i j=if i=a.toNat then c*ent R i j else ent R i j:=by
 show ent (R.set a.toNat ((R.getD a.toNat []).map (c * ·))) i j=_;rw[ZgO ha,ZgP]
 by_cases e:i=a.toNat
 ·rw[if_pos e,if_pos e,e];rfl
 ·rw[if_neg e,if_neg e]
theorem Zle{m:Nat}{R:ZZll κ}{a b:Int}{c:κ.F}(wd:Wid m R)(ha:a.toNat<R.length)(hb:b.toNat<R.length)(i j:Nat):ent (doT (.add a b c) R) i j=if i=a.toNat then ent R i j+c*ent R b.toNat j else ent R i j:=by
 show ent (R.set a.toNat (List.zipWith (· + ·) (R.getD a.toNat []) ((R.getD b.toNat []).map (c * ·)))) i j=_;rw[ZgO ha,ZmC (by rw[Q2,wd.get ha,wd.get hb]),ZgP]
 by_cases e:i=a.toNat
 ·rw[if_pos e,if_pos e,e];rfl
 ·rw[if_neg e,if_neg e]
theorem RowsX.ent{m:Nat}{H:Hp}{as:ZZla}{R:ZZll κ}(rx:RowsX κ H as R)(wd:Wid m R){i j:Nat}(hi:i<R.length)(hj:j<m):∃a xs v,as[i]?=some a/\H a=some (.lst xs)/\xs[j]?=some v/\NR κ H v (ent R i j):=by
 obtain ⟨a,xs,ha,hx,al⟩:=rx.get hi;have l:=wd.get hi;have e:R.getD i []=R[i]:=Zcc (Q4 hi);rw[e] at l;obtain ⟨v,hv,nv⟩:=al.get' (i:=j) ⋯;refine ⟨a,xs,v,ha,hx,hv,?_⟩;unfold My.ent;rw[e,Q1,Q4 ⋯];exact nv
def QS(κ:KX)(D:Int)(a:Nat)(x:κ.F):Prop:=match κ with
 | .q=>∃X:Int,x=Rat.divInt X D/\Bits a X
 | .r _ _=>True
theorem QS.inv{D:Int}(hD:0<D){a d:Nat}(h1:1<=a){x:κ.F}(h:QS κ D a x)(bD:Bits d D)(h0:x≠0):∃L:Int,0<L/\Bits a L/\QS κ L d (Fd.inv x):=by
 cases κ with
 |r p hp=>exact ⟨1,∅,Bits.of (by show 1<_;exact Q8 (show 1<2^1 by decide) (Q7 ∅ h1)),trivial⟩
 |q =>
  obtain ⟨X,rfl,hX⟩:=h;have X0:X≠0:=λz=>by subst z;exact h0 (Rat.zero_divInt D)
  have key:∀Y L:Int,0<L->X*Y=D*L->(Fd.inv (Rat.divInt X D):Rat)=Rat.divInt Y L:=λY L hL e=>by
   refine (Ze1 (α:=Rat) ?_).symm;rw[U2,e];have:(D*L:Int)≠0:=Int.ne_of_gt (W8 hD hL);exact Rat.divInt_self' this
  rcases Int.lt_or_gt_of_ne X0 with c|c
  ·refine ⟨-X,⋯,hX.le ⋯,-D,key (-D) (-X) ⋯ ?_,bD.le ⋯⟩;rw[U0,U0,Qv]
  ·exact ⟨X,c,hX,D,key D X c (Qv _ _),bD⟩
structure Ech (R:ZZll κ) (n c:Nat) (ls:List Nat) (x:κ.F):Prop where
 le:ls.length<=n
 lt:∀k<ls.length,ls.getD k 0<c
 inc:∀k k',k<k'->k'<ls.length->ls.getD k 0<ls.getD k' 0
 x0:x≠0
 col:∀k<ls.length,∀i<n,ent R i (ls.getD k 0)=if i=k then x else 0
 low:∀i,ls.length<=i->i<n->∀j<c,ent R i j=0
 pre:∀k<ls.length,∀j<ls.getD k 0,ent R k j=0
noncomputable def ZqC(R:ZZll κ)(l c:Nat)(x:κ.F)(i j:Nat):κ.F:=if i=l then ent R l j else Fd.inv x*(ent R l c*ent R i j+(0-ent R i c)*ent R l j)
theorem ZbM{ls:List Nat}{c k:Nat}(h:k<ls.length):(ls++[c]).getD k 0=ls.getD k 0:=by
 rw[Q1,Q1,Wh h]
theorem Zcd{ls:List Nat}{c:Nat}:(ls++[c]).getD ls.length 0=c:=by
 rw[Q1,Wo (Q3 _),Wq];rfl
theorem Ech.pivot{R R':ZZll κ}{n c:Nat}{ls:List Nat}{x:κ.F}(h:Ech R n c ls x)(hl:ls.length<n)(h0:ent R ls.length c≠0)(e:∀i<n,∀j,ent R' i j=ZqC R ls.length c x i j):Ech R' n (c+1) (ls++[c]) (ent R ls.length c):=by
 have hx:=Fd.mul_inv x h.x0;have ln:(ls++[c]).length=ls.length+1:=by simp
 refine ⟨⋯,λk hk=>?_,λk k' h1 h2=>?_,h0,λk hk i hi=>?_,λi a b j hj=>?_,λk hk j hj=>?_⟩
 ·rcases Nat.lt_or_ge k ls.length with q|q
  ·rw[ZbM q];have:=h.lt k q;omega
  ·have:k=ls.length:=⋯;subst this;rw[Zcd];omega
 ·have q:k<ls.length:=⋯;rw[ZbM q];rcases Nat.lt_or_ge k' ls.length with q' |q'
  ·rw[ZbM q'];exact h.inc k k' h1 q'
  ·have:k'=ls.length:=⋯;subst this;rw[Zcd];exact h.lt k q
 ·rw[e i hi];unfold ZqC;rcases Nat.lt_or_ge k ls.length with q|q
  ·rw[ZbM q];have c1:=h.col k q ls.length hl;rw[if_neg ⋯] at c1;have c2:=h.col k q i hi
   by_cases e1:i=ls.length
   ·rw[if_pos e1,c1,if_neg ⋯]
   ·rw[if_neg e1,c1,c2]
    by_cases e2:i=k
    ·rw[if_pos e2,if_pos e2];grind
    ·rw[if_neg e2,if_neg e2];grind
  ·have:k=ls.length:=⋯;subst this;rw[Zcd]
   by_cases e1:i=ls.length
   ·rw[if_pos e1,if_pos e1]
   ·rw[if_neg e1,if_neg e1];grind
 ·rw[e i b];unfold ZqC;rw[if_neg ⋯]
  by_cases e1:j=c
  ·subst e1;grind
  ·have z1:=h.low i ⋯ b j ⋯;have z2:=h.low ls.length (Q3 _) hl j ⋯;rw[z1,z2];grind
 ·rw[e k ⋯];unfold ZqC;rcases Nat.lt_or_ge k ls.length with q|q
  ·rw[ZbM q] at hj;have:=h.lt k q;have z1:=h.pre k q j hj;have z2:=h.low ls.length (Q3 _) hl j ⋯;rw[if_neg ⋯,z1,z2];grind
  ·have:k=ls.length:=⋯;subst this;rw[Zcd] at hj;rw[if_pos rfl];exact h.low ls.length (Q3 _) hl j hj
def dS:Nat->Nat|0=>1|1=>3|2=>906|_=>3614
def aS:Nat->Nat|0=>900|1=>1802|2=>3606|_=>7216
def aL:Nat->Nat|0=>1|k+1=>aS k
structure PivB (x:κ.F) (PQ PN:κ.F->Prop):Prop where
 ent:∀y,PQ y->B1 κ y
 neg:∀y,PQ y->B1 κ (0-y)
 mul:∀h y,PQ h->PQ y->B1 κ (h*y)
 nml:∀z e,PQ z->PQ e->B1 κ ((0-z)*e)
 sum:∀h y z e,PQ h->PQ y->PQ z->PQ e->B1 κ (h*y+(0-z)*e)
 inv:B1 κ (Fd.inv x)
 new:∀h y z e,PQ h->PQ y->PQ z->PQ e->PN (Fd.inv x*(h*y+(0-z)*e))
 keep:∀y,PQ y->PN y
end
theorem ZpS{κ:KX}{H:Hp}{u v:V}{x y:κ.F}(hu:NR κ H u x)(hv:NR κ H v y):∃b,Zox H u v b/\(b=true↔x=y):=by
 cases κ with
 |q =>
  obtain ⟨a,rfl,ha⟩:=hu;obtain ⟨c,rfl,hc⟩:=hv;refine ⟨_,.inr ⟨a,c,_,_,_,_,rfl,rfl,ha,hc,rfl⟩,?_⟩;rw[Bool.and_eq_true_iff,decide_eq_true_iff,decide_eq_true_iff]
  constructor
  ·rintro ⟨e1,e2⟩;exact Rat.ext e1 ⋯
  ·intro e;have e:x=y:=e;subst e;exact ⟨rfl,rfl⟩
 |r p hp =>
  have hu:u = .int x.val:=hu;have hv:v = .int y.val:=hv;refine ⟨_,.inl ⟨_,_,hu,hv,rfl⟩,?_⟩;rw[decide_eq_true_iff]
  constructor
  ·intro e;exact Fin.ext ⋯
  ·intro e;have e:x=y:=e;subst e;rfl
structure Wk (κ:KX) (Z:ZZla) (R0:ZZll κ) (m:Nat) (r u:Addr) (H:Hp) (R:ZZll κ) (ts:List (Tn κ)):Prop where
 rows:∃as:ZZla,H r=some (.lst (as.map V.ref))/\RowsX κ H as R/\∀z∈Z,z∉as
 turns:∃tvs:List V,H u=some (.lst tvs)/\AllG (TR κ H) tvs ts
 run:R=Zd2 ts R0
 ok:∀t∈ts,t.ok R0.length
 pre:∀(i:Nat) t,ts[i]?=some t->t.pre (Zd2 (ts.take i) R0)
 wid:Wid m R0
 ne:r≠u
 m7:m<=1000
 l3:ts.length<=400
 zr:r∈Z
 zu:u∈Z
 za:∀z∈Z,∃o,H z=some o
section
variable{κ:KX}{Z:ZZla}{R0 R:ZZll κ}{m:Nat}{r u:Addr}{H:Hp}{ts:List (Tn κ)}
theorem Wk.len(h:Wk κ Z R0 m r u H R ts):R.length=R0.length:=by rw[h.run,ZgL]
theorem Wk.wd(h:Wk κ Z R0 m r u H R ts):Wid m R:=by rw[h.run];exact ZgN h.wid h.ok
theorem Wk.rl(h:Wk κ Z R0 m r u H R ts):∃as:ZZla,H r=some (.lst (as.map V.ref))/\as.length=R0.length:=by
 obtain ⟨as,h1,h2,h3⟩:=h.rows;exact ⟨as,h1,by rw[h2.1,h.len]⟩
end
def ZnB(κ:KX)(f:ZZlk κ)(A:Int):Prop:=match κ with
 | .q=>0<A/\(∀x∈f,((Rat.den x:Nat):Int) ∣ A)/\∀B:Int,(∀x∈f,((Rat.den x:Nat):Int) ∣ B)->A ∣ B
 | .r _ _=>A=1
def DvB(κ:KX)(B:Int)(x:κ.F):Prop:=match κ with
 | .q=>((Rat.den x:Nat):Int) ∣ B
 | .r _ _=>True
def Ziq(P:Program)(w:World)(K:ZZfg)(mg:ZZmg)(base:Heap)(CF CR:Addr):Prop :=
 ∀(κ:KX) (H:Hp) (s:Addr),KdX CF CR κ H s->∃C dx fs ps dvs sp,H s=some (.ins C dx fs)/\Cls K C/\HasM P w K mg base C "common_bottom" 2 ps dvs sp/\fs.lookup ("common_bottom":Str)=none/\dvs=[] ∧
  ∀(r:Addr) (xs:List V) (f:ZZlk κ) (B:Int) (Q:VK),H r=some (.lst xs)->AllG (NR κ H) xs f->0<B->Bits 4000 B->(∀x∈f,DvB κ B x)->(∀A:Int,ZnB κ f A->Q (.int A) H)->sp [.ref s,.ref r] H Q E0
inductive ZbG (K:ZZfg) (vs:List V) (H:Hp) (Q:VK) (zE:XK):Prop
 |mk (s r:Addr) (xs:List V) (f:List Rat) (B:Int) (_:vs=[.ref s,.ref r]) (_:H r=some (.lst xs)) (_:AllG (NR .q H) xs f) (_:0<B) (_:Bits 4000 B) (_:(∀x∈f,((Rat.den x:Nat):Int) ∣ B)) (_:∀A:Int,ZnB .q f A->Q (.int A) H):ZbG K vs H Q zE
inductive Zes (vs:List V) (H:Hp) (Q:VK) (zE:XK):Prop
 |mk (s r:Addr) (_:vs=[.ref s,.ref r]) (_:Q (.int 1) H):Zes vs H Q zE
theorem ZmE{b d:Int}(hb:0<b)(hd:0<d):0<b.fdiv (Int.gcd b d)*d/\b ∣ b.fdiv (Int.gcd b d)*d/\d ∣ b.fdiv (Int.gcd b d)*d/\∀B:Int,b ∣ B->d ∣ B->b.fdiv (Int.gcd b d)*d ∣ B:=by
 have hg:(Int.gcd b d:Int)≠0:=by have:=M3.gcd_ne (a:=b) (b:=d) ⋯;omega
 have gp:0<(Int.gcd b d:Int):=⋯;obtain ⟨q,hq⟩:=U1 b d;obtain ⟨e,he⟩:=Wb b d;have eb:b.fdiv (Int.gcd b d)=q:=by
  rw[Int.fdiv_eq_ediv_of_nonneg _ ⋯]
  conv=>lhs;lhs;rw[hq]
  exact Int.mul_ediv_cancel_left q hg
 have hq0:0<q:=by
  rcases Int.lt_or_le 0 q with c|c
  ·exact c
  ·have:(Int.gcd b d:Int)*q<=0:=Int.mul_nonpos_of_nonneg_of_nonpos ⋯ c;omega
 rw[eb];have eq:q*d=b*e:=by
  calc q*d=q*((Int.gcd b d:Int)*e):=by rw[<-he]
   _=(Int.gcd b d:Int)*q*e:=by rw[<-W0,Qv q]
   _=b*e:=by rw[<-hq]
 have cop:Int.gcd q e=1:=by
  have h1:=Int.gcd_mul_left (Int.gcd b d:Int) q e;rw[<-hq,<-he,Qj] at h1;have h2:0<Int.gcd b d:=⋯;have h3:Int.gcd b d*1=Int.gcd b d*Int.gcd q e:=by rw[Nat.mul_one];exact h1
  exact (Nat.eq_of_mul_eq_mul_left h2 h3).symm
 refine ⟨W8 hq0 hd,⟨e,eq⟩,⟨q,Qv _ _⟩,?_⟩;rintro B ⟨s,hs⟩ ⟨t,ht⟩;have h5:q*s=e*t:=by
  have:(Int.gcd b d:Int)*(q*s)=(Int.gcd b d:Int)*(e*t):=by
   rw[<-W0,<-W0,<-hq,<-he,<-hs,<-ht]
  exact Int.eq_of_mul_eq_mul_left hg this
 have h6:q ∣ t:=Zim (b:=e) ⟨s,h5.symm⟩ cop;obtain ⟨z,hz⟩:=h6;exact ⟨z,by rw[ht,hz,<-W0,Qv d q]⟩
section
variable{P:Program}{w:World}{K:ZZfg}{mg:ZZmg}{base:Heap}{CF CR:Addr}
theorem ZgQ:FnScope ["kind","number","row"] ["kind","number","row"] (Zah Zc2):=‹2›
theorem ZfX(h:Here K mg "scaled_row" Zc2) (mt:ZfV P w K mg base CF CR "times" (λ_ x y=>x*y)):Has P w K mg base "scaled_row" 3 ["kind","number","row"] (ZbK CF CR):=by
 refine h.has (λ_ _ F=>F.b3 λ_ _ _ _ _ _ _ _ _=>rfl) λf fd F=>F.ok ZgQ (λvs H Q E h=>?_) (λcdv A outer s H vs Q E hr h=>?_)
 ·obtain ⟨_,_,_,_,_,_,_,rfl,_⟩:=h
  rfl
 obtain ⟨κ,sk,r,cv,c,xs,f,rfl,hk,hc,hr',al,bc,bf,lf,k⟩:=h;refine ⟨_,(Zae (Zal (ZaU ["each"] [(0,"kind"),(1,"number")] rfl (ZaD (pv 2)) (by exact λ_ _ _ _=>(Zaq (i:=0) (show (["each","kind","number"]:List Str).Nodup by decide +kernel) rfl (Or.inl rfl))) (by exact λ_ _ _ _=>(Zcs ⟨rfl,rfl,rfl,rfl,rfl⟩ (pv 1) hr (Zaa (pv 2) (Zaa (pv 0) Zab)))) ⟨⟨rfl,rfl,Or.inl rfl⟩,⟨⟨rfl,rfl,Or.inl rfl⟩,trivial⟩⟩))),?_⟩;refine ⟨_,rfl,r,rfl,⟨_,SqL.of hr'⟩,?_⟩;have l:=al.1;refine ZaG (K:=K) (a:=r) (xs:=xs) (λi ys H2=>Same H H2/\AllG (NR κ H2) ys ((f.take i).map (c * ·))) ⋯ ⟨Same.refl H,.nil⟩ (λi ys H2 _ q=>SqL.of (q.1 _ _ hr')) ?_ ?_
 ·rintro i x ys H2 hx hl ⟨S,e⟩;obtain ⟨y,hy,ny⟩:=al.get hx;obtain ⟨C,dx,fs,ps,dvs,sp,h1,h2,h3,h4,rfl,h5⟩:=mt κ H2 sk (hk.same S);refine ⟨_,rfl,sk,C,dx,fs,ps,_,sp,rfl,h1,h2,h3,h4,_,rfl,_,rfl,h5 _ _ _ c y _ (Same.refl _) (hc.same S) (ny.same S) bc (bf y (Qc hy)) λt H3 S3 nt=>?_⟩;refine ⟨S.trans S3,?_⟩;rw[W5,hy,Qn];exact (e.mono λ_ _ n=>n.same S3).append (.one nt)
 ·rintro ys H2 hl ⟨S,e⟩ D hD;rw[l,Wy] at e;exact k _ D ys (S.trans (Zag hD _)) (S.free hD) Zaf (e.mono λ_ _ n=>n.same (Zag hD _))
theorem Zir:FnScope ["kind","row","other"] ["kind","row","other"] (Zah Zei):=‹2›
theorem ZhJ(h:Here K mg "plus_row" Zei) (Tz:mg "zip"=none) (mp:ZfV P w K mg base CF CR "plus" (λ_ x y=>x+y)):Has P w K mg base "plus_row" 3 ["kind","row","other"] (Zc9 CF CR):=by
 refine h.has (λ_ _ F=>F.b3 λ_ _ _ _ _ _ _ _ _=>rfl) λf fd F=>F.ok Zir (λvs H Q E h=>?_) (λcdv A outer s H vs Q E hr h=>?_)
 ·obtain ⟨_,_,_,_,_,_,_,_,rfl,_⟩:=h
  rfl
 obtain ⟨κ,sk,r1,r2,xs,ys,f,g,rfl,hk,h1,h2,a1,a2,b1,b2,lf,k⟩:=h;refine ⟨_,(Zae (Zal (ZaU ["left","right"] [(0,"kind")] rfl (ZhC (by rfl) Tz (Zaa (pv 1) (Zaa (pv 2) Zab))) (by exact λ_ _ _ _=>(Zib (n:=2) K rfl rfl (ZbJ (Zaq (i:=0) (show (["left","right","kind"]:List Str).Nodup by decide +kernel) rfl (Or.inl rfl)) (ZbJ (Zaq (i:=1) (show (["left","right","kind"]:List Str).Nodup by decide +kernel) rfl (Or.inl rfl)) Ze7)))) (by exact λ_ _ _ _=>(Zcs ⟨rfl,rfl,rfl,rfl,rfl⟩ (pv 2) hr (Zaa (pv 0) (Zaa (pv 1) Zab)))) ⟨⟨rfl,rfl,Or.inl rfl⟩,trivial⟩))),?_⟩;refine ⟨_,rfl,_,rfl,r1,r2,rfl,⟨_,SqL.of h1⟩,⟨_,SqL.of h2⟩,?_⟩;have l1:=a1.1;have l2:=a2.1;refine Zfg (K:=K) (a:=r1) (b:=r2) (xs:=xs) (ys:=ys) (λi zs H2=>Same H H2/\AllG (NR κ H2) zs (List.zipWith (· + ·) (f.take i) (g.take i))) ⋯ ⟨Same.refl H,.nil⟩ (λi zs H2 q=>⟨SqL.of (q.1 _ _ h1),SqL.of (q.1 _ _ h2)⟩) ?_ ?_
 ·rintro i x y T zs H2 hx hy hl nT ⟨S,e⟩;obtain ⟨p,q,hp,hq,np,nq⟩:=a1.zip a2 hx hy;have ST:=Zag nT (.tup [x,y]);generalize upd H2 T (.tup [x,y])=H3 at *;have S3:=S.trans ST;obtain ⟨C,dx,fs,ps,dvs,sp,c1,c2,c3,c4,rfl,c5⟩:=mp κ H3 sk (hk.same S3);refine ⟨_,rfl,sk,C,dx,fs,ps,_,sp,rfl,c1,c2,c3,c4,_,rfl,_,rfl,c5 _ _ _ p q _ (Same.refl _) (np.same S3) (nq.same S3) (b1 p (Qc hp)) (b2 q (Qc hq)) λt H4 S4 nt=>?_⟩;refine ⟨S3.trans S4,?_⟩;rw[W5,hp,W5,hq];have lp:=(Qo.mp hp).1;have lq:=(Qo.mp hq).1;rw[show (some p).toList=[p] from rfl,show (some q).toList=[q] from rfl,List.zipWith_append (by rw[Qa,Qa];omega)];exact (e.mono λ_ _ n=>n.same (ST.trans S4)).append (.one nt)
 ·rintro zs H2 hl ⟨S,e⟩ D hD;have ez:List.zipWith (· + ·) (f.take (min xs.length ys.length)) (g.take (min xs.length ys.length))=List.zipWith (· + ·) f g:=by
   rw[<-List.take_zipWith,Wt];rw[Wx];omega
  rw[ez] at e;exact k _ D zs (S.trans (Zag hD _)) (S.free hD) Zaf (e.mono λ_ _ n=>n.same (Zag hD _))
theorem Zis(kd:Kd K mg CF CR)(hF:HasM P w K mg base CF "is_nought" 2 ["self","one"] [] (Zeq K CF)) (hR:HasM P w K mg base CR "is_nought" 2 ["self","one"] [] Zer):ZnA P w K mg base CF CR:=by
 intro κ H s hk
 cases κ with
 |q =>
  obtain ⟨dx,h⟩:=hk;refine ⟨CF,dx,[],_,_,_,h,kd.clF,hF,rfl,rfl,λu x Q hu k=>?_⟩;obtain ⟨a,rfl,hu⟩:=hu;refine ⟨s,a,_,_,rfl,SqT.of hu,k _ ?_⟩;rw[decide_eq_true_iff];exact Rat.num_eq_zero
 |r p hp =>
  obtain ⟨dx,h⟩:=hk;refine ⟨CR,dx,fsR p,_,_,_,h,kd.clR,hR,Zc7 _ ∅,rfl,λu x Q hu k=>?_⟩;have hu:u = .int x.val:=hu;subst hu;refine ⟨s,_,rfl,k _ ?_⟩;rw[decide_eq_true_iff]
  letI:=hp.nz
  have z:(0:Fin p).val=0:=by simp
  constructor
  ·intro e;exact Fin.ext (by rw[z];omega)
  ·intro e;have e:x=(0:Fin p):=e;rw[e,z];rfl
end
section
variable{κ:KX}
def QT(κ:KX)(R:ZZll κ):Prop:=κ = .q->(∀f∈R,f.length<=3)/\∃B:Int,0<B/\Bits 900 B/\AllR (QS κ B 900) R
theorem QS.dv{B:Int}(hB:0<B){a:Nat}{x:κ.F}(h:QS κ B a x):DvB κ B x:=by
 cases κ with
 |r p hp=>exact trivial
 |q =>
  obtain ⟨X,rfl,_⟩:=h;exact (Zb4 X hB).1
theorem Zlf{m:Nat}{R:ZZll κ}(wd:Wid m R){i j:Nat}(hi:i<R.length)(hj:j<m):ent R i j∈R.getD i []:=by
 have l:=wd.get hi;unfold ent;generalize R.getD i []=f at *;rw[Q1,Q4 ⋯];exact Ql _
theorem QT.m3{R:ZZll κ}{m:Nat}(h:QT κ R)(wd:Wid m R)(n1:1<=R.length)(z:κ = .q):m<=3:=by
 have:=(h z).1 R[0] (Ql ⋯);rw[wd _ (Ql ⋯)] at this;exact this
theorem Ech.scale{R R':ZZll κ}{n c:Nat}{ls:List Nat}{x:κ.F}(h:Ech R n c ls x)(e:∀i<n,∀j,ent R' i j=if i<ls.length then Fd.inv x*ent R i j else ent R i j):Ech R' n c ls 1:=by
 have hx:=Fd.mul_inv x h.x0;have le:=h.le;refine ⟨h.le,h.lt,h.inc,λz=>Fd.zne z.symm,λk hk i hi=>?_,λi a b j hj=>?_,λk hk j hj=>?_⟩
 ·rw[e i hi,h.col k hk i hi]
  by_cases e1:i=k
  ·rw[if_pos e1,if_pos e1,if_pos ⋯];grind
  ·rw[if_neg e1,if_neg e1]
   split
   ·grind
   ·rfl
 ·rw[e i b,if_neg ⋯];exact h.low i a b j hj
 ·rw[e k ⋯,if_pos hk,h.pre k hk j hj];grind
end
end My
namespace My
end My
namespace My
open PySem L2 PyProof.Rows
section
variable{κ:KX}
noncomputable def Zcp(f v:Nat->κ.F):Nat->κ.F
 |0=>0
 |m+1=>Zcp f v m+f m*v m
theorem ZcM(c:κ.F)(f v:Nat->κ.F):∀m,Zcp (λj=>c*f j) v m=c*Zcp f v m
 |0=>by show (0:κ.F)=c*0;grind
 |m+1=>by
  show Zcp (λj=>c*f j) v m+c*f m*v m=c*(Zcp f v m+f m*v m);rw[ZcM c f v m];grind
theorem ZgR(f g v:Nat->κ.F):∀m,Zcp (λj=>f j+g j) v m=Zcp f v m+Zcp g v m
 |0=>by show (0:κ.F)=0+0;grind
 |m+1=>by
  show Zcp (λj=>f j+g j) v m+(f m+g m)*v m=Zcp f v m+f m*v m+(Zcp g v m+g m*v m);rw[ZgR f g v m];grind
theorem Zd4{f v:Nat->κ.F}:∀ {m},(∀j<m,f j*v j=0)->Zcp f v m=0
 |0,_=>rfl
 |m+1,h=>by
  show Zcp f v m+f m*v m=0;rw[Zd4 λj hj=>h j ⋯,h m ⋯];grind
theorem Ze2{f v:Nat->κ.F}{a:Nat}:∀ {m},a<m->(∀j<m,j≠a->f j*v j=0)->Zcp f v m=f a*v a
 |0,h,_=>absurd h (Nat.not_lt_zero _)
 |m+1,h,z=>by
  show Zcp f v m+f m*v m=_
  by_cases e:a=m
  ·subst e;rw[Zd4 λj hj=>z j ⋯ ⋯];grind
  ·rw[Ze2 ⋯ λj hj=>z j ⋯,z m ⋯ ⋯];grind
theorem Zje{f v:Nat->κ.F}{a b:Nat}(ne:a≠b):∀ {m},a<m->b<m->(∀j<m,j≠a->j≠b->f j*v j=0)->Zcp f v m=f a*v a+f b*v b
 |0,h,_,_=>absurd h (Nat.not_lt_zero _)
 |m+1,h,h',z=>by
  show Zcp f v m+f m*v m=_
  by_cases e:a=m
  ·subst e;rw[Ze2 (a:=b) ⋯ λj hj jb=>z j ⋯ ⋯ jb];grind
  ·by_cases e':b=m
   ·subst e';rw[Ze2 (a:=a) ⋯ λj hj ja=>z j ⋯ ja ⋯]
   ·rw[Zje ne ⋯ ⋯ λj hj=>z j ⋯,z m ⋯ ⋯ ⋯];grind
def Ker(R:ZZll κ)(n m:Nat)(v:Nat->κ.F):Prop:=∀i<n,Zcp (ent R i) v m=0
theorem ZfA{c s:κ.F}(hc:c≠0)(h:c*s=0):s=0:=by
 have e:=Fd.mul_inv c hc;have:s=Fd.inv c*(c*s):=by grind
 rw[this,h];grind
theorem ZoC{R:ZZll κ}{m:Nat}{t:Tn κ}{v:Nat->κ.F}(wd:Wid m R)(ok:t.ok R.length):Ker (doT t R) R.length m v↔Ker R R.length m v:=by
 cases t with
 |swap a b =>
  obtain ⟨⟨a0,a1⟩,⟨b0,b1⟩,ne⟩:=ok;have e:=ZmD (R:=R) (a:=a) (b:=b) ⋯ ⋯;have r:∀i,ent (doT (.swap a b) R) i=if i=b.toNat then ent R a.toNat else if i=a.toNat then ent R b.toNat else ent R i:=λi=>by
   funext j
   rw[e]
   split
   ·rfl
   ·split <;> rfl
  constructor
  ·intro h i hi
   by_cases ia:i=a.toNat
   ·have:=h b.toNat ⋯;rw[r,if_pos rfl] at this;rw[ia];exact this
   ·by_cases ib:i=b.toNat
    ·have:=h a.toNat ⋯;rw[r,if_neg ⋯,if_pos rfl] at this;rw[ib];exact this
    ·have:=h i hi;rw[r,if_neg ib,if_neg ia] at this;exact this
  ·intro h i hi;rw[r]
   split
   ·exact h _ ⋯
   ·split
    ·exact h _ ⋯
    ·exact h _ hi
 |scale a c =>
  obtain ⟨⟨a0,a1⟩,c0⟩:=ok;have r:∀i,Zcp (ent (doT (.scale a c) R) i) v m=if i=a.toNat then c*Zcp (ent R i) v m else Zcp (ent R i) v m:=λi=>by
   have:ent (doT (.scale a c) R) i=if i=a.toNat then (λj=>c*ent R i j) else ent R i:=by
    funext j
    rw[ZhI ⋯]
    split <;> rfl
   rw[this]
   split
   ·exact ZcM _ _ _ _
   ·rfl
  constructor
  ·intro h i hi;have:=h i hi;rw[r] at this
   split at this
   ·exact ZfA c0 this
   ·exact this
  ·intro h i hi;rw[r,h i hi]
   split
   ·grind
   ·rfl
 |add a b c =>
  obtain ⟨⟨a0,a1⟩,⟨b0,b1⟩,ne⟩:=ok;have r:∀i,Zcp (ent (doT (.add a b c) R) i) v m=if i=a.toNat then Zcp (ent R i) v m+c*Zcp (ent R b.toNat) v m else Zcp (ent R i) v m:=λi=>by
   have:ent (doT (.add a b c) R) i=if i=a.toNat then (λj=>ent R i j+(λj=>c*ent R b.toNat j) j) else ent R i:=by
    funext j
    rw[Zle wd ⋯ ⋯]
    split <;> rfl
   rw[this]
   split
   ·rw[ZgR,ZcM]
   ·rfl
  constructor
  ·intro h;have hb:Zcp (ent R b.toNat) v m=0:=by
    have:=h b.toNat ⋯;rw[r,if_neg ⋯] at this;exact this
   intro i hi;have:=h i hi;rw[r] at this
   split at this
   ·rw[hb] at this;grind
   ·exact this
  ·intro h i hi;rw[r,h i hi,h b.toNat ⋯]
   split
   ·grind
   ·rfl
theorem ZmF{m:Nat}{v:Nat->κ.F}{ts:List (Tn κ)}:∀ {R:ZZll κ},Wid m R->(∀t∈ts,t.ok R.length)->(Ker (Zd2 ts R) R.length m v↔Ker R R.length m v):=by
 induction ts with
 |nil=>exact λ_ _=>Iff.rfl
 |cons t ts ih =>
  intro R wd ok;have o:=ok t (by simp);have l:=ZgK t R;have:=ih (R:=doT t R) (Zin wd o) (λt' h'=>by rw[l];exact ok t' (by simp[h']));rw[l] at this;exact this.trans (ZoC wd o)
theorem Zlg{R:ZZll κ}{n m j:Nat}{ls:List Nat}{x:κ.F}(h:Ech R n m ls x)(nj:∀k<ls.length,ls.getD k 0≠j):∃v:Nat->κ.F,v j=1/\(∀k<ls.length,v (ls.getD k 0)=0-Fd.inv x*ent R k j)/\∀j',j'≠j->(∀k<ls.length,ls.getD k 0≠j')->v j'=0:=by
 classical
 refine ⟨λj'=>if j'=j then 1 else if hk:∃k,k<ls.length/\ls.getD k 0=j' then 0-Fd.inv x*ent R hk.choose j else 0,if_pos rfl,λk hk=>?_,λj' h1 h2=>?_⟩
 ·have ex:∃k',k'<ls.length/\ls.getD k' 0=ls.getD k 0:=⟨k,hk,rfl⟩;show (if ls.getD k 0=j then (1:κ.F) else _)=_;rw[if_neg (nj k hk),dif_pos ex];obtain ⟨c1,c2⟩:=ex.choose_spec;generalize ex.choose=k' at *;have:k'=k:=by
   rcases Nat.lt_trichotomy k' k with l|l|l
   ·have:=h.inc k' k l hk;omega
   ·exact l
   ·have:=h.inc k k' l c1;omega
  rw[this]
 ·show (if j'=j then (1:κ.F) else _)=0;rw[if_neg h1,dif_neg (λ⟨k,a,b⟩=>h2 k a b)]
theorem ZoD{R R':ZZll κ}{n m j:Nat}{ls:List Nat}{x x':κ.F}{v:Nat->κ.F}(h':Ech R' n m ls x')(hj:j<m)(nj:∀k<ls.length,ls.getD k 0≠j)(v1:v j=1)(v2:∀k<ls.length,v (ls.getD k 0)=0-Fd.inv x*ent R k j)(v3:∀j',j'≠j->(∀k<ls.length,ls.getD k 0≠j')->v j'=0){k:Nat}(hk:k<ls.length):Zcp (ent R' k) v m=ent R' k j+x'*(0-Fd.inv x*ent R k j):=by
 have le:=h'.le;rw[Zje (a:=j) (b:=ls.getD k 0) (Ne.symm (nj k hk)) hj (h'.lt k hk),v1,v2 k hk,h'.col k hk k ⋯,if_pos rfl]
 ·grind
 ·intro j' _ n1 n2
  by_cases e:∀k<ls.length,ls.getD k 0≠j'
  ·rw[v3 j' n1 e];grind
  ·obtain ⟨k',e⟩:=Classical.not_forall.mp e;obtain ⟨hk',e⟩:=Classical.not_forall.mp e;have e:ls.getD k' 0=j':=Classical.not_not.mp e;rw[<-e,h'.col k' hk' k ⋯,if_neg (λz=>n2 (by rw[z];exact e.symm))];grind
theorem Zlh{R:ZZll κ}{n m j:Nat}{ls:List Nat}{x:κ.F}{v:Nat->κ.F}(h:Ech R n m ls x)(hj:j<m)(nj:∀k<ls.length,ls.getD k 0≠j)(v1:v j=1)(v2:∀k<ls.length,v (ls.getD k 0)=0-Fd.inv x*ent R k j)(v3:∀j',j'≠j->(∀k<ls.length,ls.getD k 0≠j')->v j'=0):Ker R n m v:=by
 intro i hi
 by_cases hk:i<ls.length
 ·rw[ZoD h hj nj v1 v2 v3 hk];have:=Fd.mul_inv x h.x0;grind
 ·exact Zd4 λj' hj'=>by rw[h.low i ⋯ hi j' hj'];grind
theorem Zjf{R1 R2:ZZll κ}{n n2 m:Nat}{l1 l2:List Nat}{x1 x2:κ.F}(h1:Ech R1 n m l1 x1)(h2:Ech R2 n2 m l2 x2)(ker:∀v,Ker R2 n2 m v->Ker R1 n m v):∀k<l1.length,∃k'<l2.length,l2.getD k' 0=l1.getD k 0:=by
  intro k hk;refine Classical.byContradiction λnx=>?_;have nj:∀k'<l2.length,l2.getD k' 0≠l1.getD k 0:=λk' hk' e=>nx ⟨k',hk',e⟩;obtain ⟨v,v1,v2,v3⟩:=Zlg h2 nj;have kv:=ker v (Zlh h2 (h1.lt k hk) nj v1 v2 v3) k (by have:=h1.le; omega);rw[Ze2 (a:=l1.getD k 0) (h1.lt k hk),v1,h1.col k hk k (by have:=h1.le; omega),if_pos rfl] at kv
  · exact h1.x0 (by grind)
  · intro j hj ne
    by_cases lt:j<l1.getD k 0
    · rw[h1.pre k hk j lt]; grind
    · have z:v j=0:=by
        by_cases e:∀k<l2.length,l2.getD k 0≠j
        · exact v3 j ne e
        · obtain ⟨k',e⟩:=Classical.not_forall.mp e
          obtain ⟨hk',e⟩:=Classical.not_forall.mp e;have e:l2.getD k' 0=j:=Classical.not_not.mp e;rw[<-e,v2 k' hk',h2.pre k' hk' _ ⋯]; grind
      rw[z]; grind
theorem Zli:∀ {l1 l2:List Nat},l1.Pairwise (· < ·)->l2.Pairwise (· < ·)->(∀x,x∈l1↔x∈l2)->l1=l2
 | [],[],_,_,_=>rfl
 | [],b::l2,_,_,h=>by have:=(h b).mpr (by simp);simp at this
 |a::l1,[],_,_,h=>by have:=(h a).mp (by simp);simp at this
 |a::l1,b::l2,p1,p2,h=>by
  obtain ⟨q1,r1⟩:=List.pairwise_cons.mp p1;obtain ⟨q2,r2⟩:=List.pairwise_cons.mp p2;have e:a=b:=by
   rcases Qe.mp ((h a).mp (by simp)) with e|m1
   ·exact e
   ·rcases Qe.mp ((h b).mpr (by simp)) with e|m2
    ·exact e.symm
    ·have:=q2 a m1;have:=q1 b m2;omega
  subst e;refine congrArg (List.cons a) (Zli r1 r2 λx=>?_)
  constructor
  ·intro m;rcases Qe.mp ((h x).mp (by simp[m])) with e|m'
   ·have:=q1 x m;omega
   ·exact m'
  ·intro m;rcases Qe.mp ((h x).mpr (by simp[m])) with e|m'
   ·have:=q2 x m;omega
   ·exact m'
theorem ZgS{l:List Nat}{k:Nat}(h:k<l.length):l.getD k 0=l[k]:=by rw[Q1,Q4 h];rfl
theorem Ech.pw{R:ZZll κ}{n m:Nat}{ls:List Nat}{x:κ.F}(h:Ech R n m ls x):ls.Pairwise (· < ·) :=
 List.pairwise_iff_getElem.mpr λi j hi hj l=>by have:=h.inc i j l hj;rw[ZgS hi,ZgS hj] at this;exact this
theorem ZhK{l:List Nat}{x:Nat}:x∈l↔∃k<l.length,l.getD k 0=x:=by
 constructor
 ·intro m;obtain ⟨k,hk,e⟩:=Uy m;exact ⟨k,hk,by rw[ZgS hk];exact e⟩
 ·rintro ⟨k,hk,e⟩;rw[ZgS hk] at e;rw[<-e];exact Ql hk
theorem ZmG{R1 R2:ZZll κ}{n n2 m:Nat}{l1 l2:List Nat}{x1 x2:κ.F}(h1:Ech R1 n m l1 x1)(h2:Ech R2 n2 m l2 x2)(ker:∀v,Ker R2 n2 m v↔Ker R1 n m v):l1=l2:=by
 refine Zli h1.pw h2.pw λx=>?_;rw[ZhK,ZhK]
 constructor
 ·rintro ⟨k,hk,e⟩;obtain ⟨k',hk',e'⟩:=Zjf h1 h2 (λv=>(ker v).mp) k hk;exact ⟨k',hk',e'.trans e⟩
 ·rintro ⟨k,hk,e⟩;obtain ⟨k',hk',e'⟩:=Zjf h2 h1 (λv=>(ker v).mpr) k hk;exact ⟨k',hk',e'.trans e⟩
noncomputable def ZoE(N s n:Nat)(f:ZZlk κ):ZZlk κ:=List.replicate s 0++f++List.replicate (N-s-n) 0
noncomputable def Zq5(N:Nat):Nat->List (ZZll κ)->ZZll κ
 |_,[]=>[]
 |s,T::Ts=>T.map (ZoE N s T.length)++Zq5 N (s+T.length) Ts
noncomputable def Zq6(N i:Nat)(x:κ.F)(b:Bool):ZZlk κ:=(List.range N).map λj=>if j=i then x else if b=true/\j+1=i then 1 else 0
noncomputable def ZsD(x:κ.F)(n:Nat):ZZll κ:=(List.range n).map λp=>(List.range n).map λc=>if c=p then x else if c+1=p then 1 else 0
noncomputable def dsc(bl:List (κ.F×Nat)):List (κ.F×Bool):=bl.flatMap λd=>(List.range d.2).map λk=>(d.1,decide (0<k))
noncomputable def Zsi(bl:List (κ.F×Nat)):ZZll κ:=(dsc bl).mapIdx λi d=>Zq6 (dsc bl).length i d.1 d.2
noncomputable def Zsj(i:Nat)(d:κ.F×Bool):ZZlk κ:=if d.2=true then (List.replicate i 0++[d.1]).set (i-1) 1 else List.replicate i 0++[d.1]
noncomputable def Zsk(ds:List (κ.F×Bool)):ZZll κ:=ds.mapIdx Zsj
end
end My
namespace L2
open PySem PySem.Spec PyProof.Rows
theorem Zjg{α β:Type}{f g:α->Option β}:∀ {l:List α},(∀a∈l,f a=g a)->l.filterMap f=l.filterMap g
 | [],_=>rfl
 |a::l,h=>by
  have ih:=Zjg (l:=l) λb hb=>h b (Wl _ hb);rw[Up,Up,h a Wj,ih]
theorem ZfY(its:List Value):slicePick its.toArray none none (some (-1))=its.reverse.toArray:=by
  have e:sliceBounds none none (some (-1)) its.toArray.size=((its.length:Int)-1,-1,-1):=by
    simp[sliceBounds]
  unfold slicePick;rw[e]
  congr 1
  show (sliceRange ((its.length:Int)-1) (-1) (-1)).filterMap _=_;have e2:sliceRange ((its.length:Int)-1) (-1) (-1)=(List.range its.length).map λ(k:Nat)=>its.length-1-k:=by
    unfold sliceRange
    by_cases h:0<its.length
    · have c:(((its.length:Int)-1 - -1 - -1-1)/(- -1))=(its.length:Int):=by
        rw[show (- -1:Int)=1 from rfl,Int.ediv_one]; omega
      simp only[show ¬((-1:Int)>0) by decide,if_false,show (its.length:Int)-1 > -1 by omega,if_true,c,Qu]
      apply List.map_congr_left
      intro k hk;have:=U9.mp hk;omega
    · have z:its.length=0:=⋯
      rw[z]
      rfl
  rw[e2];have e3:=pick_run its.reverse.toArray 0 its.length;rw[List.drop_zero,Wt (by simp)] at e3;have e4:its.reverse.toArray.toList=its.reverse:=rfl;rw[e4] at e3;rw[<-e3,List.filterMap_map,List.filterMap_map];refine Zjg ?_;intro k hk;have hk:=U9.mp hk;show its.toArray[its.length-1-k]?=its.reverse.toArray[0+k]?;rw[Nat.zero_add,List.getElem?_toArray,List.getElem?_toArray,Uf hk]
section
variable{X:Cx}{e st:Expr}{te ts:TE}{pos p2:Pos}
theorem Zlj{xs:List V}:∀ {us:List Value},Vals xs us->Vals xs.reverse us.reverse:=by
 induction xs with
 |nil=>intro us r;cases r;exact .nil
 |cons x xs ih =>
  intro us r
  cases r with
  |cons r1 r2 =>
   rw[List.reverse_cons,List.reverse_cons];exact (ih r2).append (.cons r1 .nil)
def Zsl(K:ZZfg)(te ts:TE):TE:=λσ H Q=>te σ H λx H1=>ts σ H1 λy H2=>y = .int (-1)/\∃a xs,x = .ref a/\SqL K H2 a xs/\∀p,H2 p=none->Q (.ref p) (upd H2 p (.lst xs.reverse))
theorem ZpT(he:PE X e te)(hs:PE X st ts):PE X (.Subscript e (.Slice none none (some st) p2) pos) (Zsl X.K te ts):=by
 intro pins s σ H Q I h;refine Subscript_ (thn (he pins s σ H _ I h) λv s1 ⟨x,H1,I1,r1,q1⟩=>?_);refine wpAny_Slice ?_;rw[evalPart_none];refine wpAny_pure (wpAny_pure ?_);rw[evalPart_some];refine thn (hs pins s1 σ H1 _ I1 q1) λvs s3 ⟨y,H3,I3,ry,q3⟩=>?_;obtain ⟨rfl,a,xs,rfl,hx,q⟩:=q3;obtain ⟨t,rfl⟩:=ry
 cases r1
 have I4:Inv X pins σ H3 { s3 with heap:=s3.heap.push { cls:=.type "slice", data:=.fields #[.none,.none,.int (-1) t] } }:=I3.kept (t':=s3.toks) λb ob q=>Heap.get?_push_of_some _ q;obtain ⟨its,r,ht,hz⟩:=I4.list hx;have hlen:=r.length;show wpAny (model X.prog X.w) X.A (subscriptTail e (.Slice none none (some st) p2) (.ref a) (.ref s3.heap.objs.size)) (EP X pins σ Q) X.xe { s3 with heap:=s3.heap.push { cls:=.type "slice", data:=.fields #[.none,.none,.int (-1) t] } };refine tail_any (ops:=[.ref a,.ref s3.heap.objs.size]) ht.isList.typeIs slot_list_getitem.lookup ?_ (by with_unfolding_all rfl);refine wpAny_getItem_list_slice ht.isList (Heap.IsSliceOf.new ..) .none .none (.int (-1) t) (by simp) ?_ (by rw[Qh];omega);rw[ZfY];refine ⟨.ref _,_,I4.laid (t':=s3.toks) (o:=.lst xs.reverse) (λb ob q=>Heap.get?_push_of_some _ q) (Q3 _) ?_,rfl,q _ (I4.hok.fresh (Q3 _))⟩;exact ⟨by rw[Wr];exact hz,_,0,Zlj r,Heap.get?_push_size _ rfl⟩
end
section
variable{X:Cx}{k:Nat}
def Zsm:R2:=λx y H Q=>∃a b xs,x = .ref a/\y = .ref b/\H a=some (.lst xs)/\H b=some (.lst [])/\Q (.bl (decide (xs.length=0))) H
theorem ZpU(hr:Room k X.A):OpR X (compareOp .Eq) Zsm:=by
 intro pins s σ H x y v u Q I rx ry h;obtain ⟨a,b,xs,rfl,rfl,hx,hy,q⟩:=h
 cases rx
 cases ry
 obtain ⟨its,r1,p1,_⟩:=I.list (SqL.of (K:=X.K) hx);obtain ⟨jts,r2,p2,_⟩:=I.list (SqL.of (K:=X.K) hy);have l1:=r1.length;have l2:=r2.length;rw[List.length_nil] at l2;have hu:=hr.units
 by_cases h0:xs.length=0
 ·refine SeqAt.eq_listAt (e:=λ_=>true) p1.isList p2.isList (by simp;omega) ⋯ (λj h1 h2=>by simp at h2;omega) ?_;refine ⟨.bl true,H,I,?_,?_⟩
  ·show Value.bool _=Value.bool _;rw[Zch]
  ·rw[decide_eq_true h0] at q;exact q
 ·refine SeqAt.eq_list_lengthsAt p1.isList p2.isList (by simp;omega) ⋯ ?_;refine ⟨.bl false,H,I,rfl,?_⟩;rw[decide_eq_false h0] at q;exact q
end
def Itd(hi:Int)(n:Nat):It:=⟨λi _=>i<n,λi H x H'=>H'=H/\x = .int (hi-i),λi _=>n<=i⟩
theorem Zlk{P:Program}{w:World}{K:ZZfg}{tg:Expr}(it:Addr)(lo:Int)(n:Nat):Turn P w K tg (Itd lo n) [it] it (λi h=>IsRangeIter h it (lo+(i:Nat)*(-1)) ((n:Int)-(i:Nat)) (-1)) where
 mem:=by simp
 obj:=λi h st b hb=>by
  have e:b=it:=by simpa using hb
  subst e;exact ⟨_,st,λv z=>by
   have z':Data.fields _=Data.cell v:=z
   cases z'⟩
 keep:=λi h h' st k=>k it (by simp) _ st
 item:=by
  intro X hP hw hK hc i pins s σ H E I hf st hg;subst hP hw hK;obtain ⟨f0,f1,f2,f3,f4,f5⟩:=hf it (by simp);have W:=Walks.range (prog:=X.prog) (w:=X.w) (I.ok.hd hc) it lo (-1) n;refine W.item i s _ _ hg st λv h' tk hv st' kk=>?_;obtain ⟨t,rfl⟩:=hv;have I1:Inv X pins σ H { s with heap:=h',toks:=tk }:=I.turned (λb o hb e=>kk b o (by simpa using hb) e) f0 f1 f3 f4 f5;refine ⟨_,rfl,Zkm (s:={ s with heap:=h',toks:=tk }) (n :="range_iterator") st' rfl rfl ∅ ⟨.int (lo-i),H,I1,⟨t,?_⟩,⟨rfl,rfl⟩,st',λb hb=>(hf b hb).1⟩⟩
  congr 1
  omega
 done:=by
  intro X hP hw hK hc i pins s σ H E I hf st hg;subst hP hw hK;obtain ⟨f0,f1,f2,f3,f4,f5⟩:=hf it (by simp);exact wpAny_pyNext_range_end (I.ok.hd hc) st (by have:n<=i:=hg;omega) λh' eb=>⟨rfl,I.turned (t':=s.toks) (λb o hb e=>eb b o hb e) f0 f1 f3 f4 f5⟩
 self:=λ_ _ _ _ _ st h=>wpAny_pyIter_rangeiter st h
section
variable{X:Cx}{tg:Expr}
theorem ZhL(a b:Int):Builtin.Range.rangeSize a b (-1)=((a-b).toNat:Int):=by
 unfold Builtin.Range.rangeSize
 simp only[show ¬((-1:Int)>0) by decide,if_false,show (-(-1):Int)=1 from rfl,Int.ediv_one]
 split <;> omega
theorem ZmH{a b:Int}(ha:-(2^62)<=a)(ha':a<2^62)(hb:-(2^62)<=b)(hb':b<2^62):Builtin.Range.small a b (-1)=true:=by
 unfold Builtin.Range.small;rw[ZhL]
 simp only[Builtin.Range.rangeFitsLong,Bool.and_eq_true,Bool.or_eq_true,decide_eq_true_eq,beq_iff_eq,show ¬((-1:Int)>0) by decide,if_false]
 omega
theorem ZmI{pins:List (Addr×Obj)}{σ:St}{H:Hp}{s:Shared}{R:It->Hp->Prop}{E:Value->Shared->Prop}{lo hi:Int}{t u v:Tok}{tk:Nat}(I:Inv X pins σ H s)(h1:-(2^62)<=lo)(h2:lo<2^62)(h3:-(2^62)<=hi)(h4:hi<2^62)
    (q:R (Itd lo (lo-hi).toNat) H):wpAny (model X.prog X.w) X.A (pyIter (.ref s.heap.objs.size)) (PIE X pins σ tg R) E { s with heap:=s.heap.push { cls:=.type "range", data:=.fields #[.int lo t,.int hi u,.int (-1) v] },toks:=tk }:=by
  refine wpAny_pyIter_range (IsRange.new ..) (ZmH h1 h2 h3 h4) ?_;have I1:Inv X pins σ H { s with heap:=s.heap.push { cls:=.type "range", data:=.fields #[.int lo t,.int hi u,.int (-1) v] },toks:=tk }:=I.kept λb o e=>Heap.get?_push_of_some _ e;refine ⟨(s.heap.push { cls:=.type "range", data:=.fields #[.int lo t,.int hi u,.int (-1) v] }).objs.size,[(s.heap.push { cls:=.type "range", data:=.fields #[.int lo t,.int hi u,.int (-1) v] }).objs.size],_,_,H,rfl,
    I1.kept (t':=tk) λb o e=>Heap.get?_push_of_some _ e,Zlk _ lo (lo-hi).toNat,?_,λb hb=>?_,q⟩
  · have e1:lo+((0:Nat):Int)*(-1)=lo:=by simp
    have e2:(((lo-hi).toNat:Nat):Int)-((0:Nat):Int)=Builtin.Range.rangeSize lo hi (-1):=by rw[ZhL]; omega
    show IsRangeIter _ _ (lo+((0:Nat):Int)*(-1)) ((((lo-hi).toNat:Nat):Int)-((0:Nat):Int)) (-1);rw[e1,e2];exact Heap.get?_push_size _ rfl
  · have e:b=(s.heap.push { cls:=.type "range", data:=.fields #[.int lo t,.int hi u,.int (-1) v] }).objs.size:=by simpa using hb
    subst e;exact I1.fpOk (Q3 _) (I1.hok.fresh (Q3 _))
inductive ZnC (vs:List V) (H1:Hp) (R:It->Hp->Prop):Prop
 |mk (i j:Int) (_:vs=[.int i,.int j,.int (-1)]) (_:-(2^62)<=i/\i<2^62 /\ -(2^62)<=j/\j<2^62) (_:R (Itd i (i-j).toNat) H1):ZnC vs H1 R
def Zq7(ta:TA):TI:=λσ H R=>ta σ H λvs H1=>ZnC vs H1 R
theorem Zll{a b c:Expr}{ta:TA}{p pos:Pos}(hg:Gl X "range") (hm:X.mg "range" = none) (ha:PA X [a,b,c] ta) (hs:starEach [a,b,c] X.env=[(false,eval a X.env),(false,eval b X.env),(false,eval c X.env)]:=by rfl) (hs2:starEach [b,c] X.env=[(false,eval b X.env),(false,eval c X.env)]:=by rfl) :
    PI X tg (.Call (.Name "range" p) [a,b,c] [] pos) (Zq7 ta):=by
  intro pins s σ H R I h;refine Call_ (Zdu I hg hm boot_range (PyProof.Rows.callWith_type1 (thn (ha pos pins s σ H _ I h) λus s1 ⟨vs,H1,I1,r1,q1⟩=>?_) (by rw[hs,hs2]) (by rw[hs2]; rfl)));obtain ⟨i,j,e,⟨q1,q2,q3,q4⟩,q⟩:=q1;subst e
  cases r1 with
  | cons r rr =>
    cases rr with
    | cons r' rr =>
      cases rr with
      | cons r'' rr =>
        cases rr
        obtain ⟨t,rfl⟩:=r;obtain ⟨t',rfl⟩:=r';obtain ⟨t'',rfl⟩:=r'';exact call_range_3 ∅ (ZmI I1 q1 q2 q3 q4 q) (Or.inl (PyProof.noPylong_of_log2 ‹4›))
theorem ZmJ{hi:Int}{n:Nat}{g:TG}{tb:TS}{D:Ends}{σ:St}{H:Hp}(Pv:Nat->St->Hp->Prop)(h0:Pv 0 σ H)
    (hs:∀i σ H,i<n->Pv i σ H->g (.int (hi-i)) σ H λσ2 H2=>tb { D with nx:=Pv (i+1),ct:=Pv (i+1),bk:=D.nx } σ2 H2) (hd:∀σ H,Pv n σ H->D.nx σ H) :
    ∃W:Nat->Nat->St->Hp->Prop,(∃m,W 0 m σ H)/\∀i m σ H,W i m σ H →
      ((Itd hi n).stop i H/\D.nx σ H)\/((Itd hi n).go i H/\∃N:St->Hp->Prop,(∀σ' H',N σ' H'->∃m',m'<m/\W (i+1) m' σ' H')/\∀x H',(Itd hi n).yld i H x H'->g x σ H' λσ2 H2=>tb { D with nx:=N,ct:=N,bk:=D.nx } σ2 H2):=by
  refine ⟨λi m σ H=>m=n-i/\i<=n/\Pv i σ H,⟨_,rfl,Qf _,h0⟩,?_⟩;rintro i m σ H ⟨rfl,hi',p⟩
  by_cases h:i<n
  · refine .inr ⟨h,Pv (i+1),λσ' H' p'=>⟨n-(i+1),⋯,rfl,h,p'⟩,λx H' y=>?_⟩
    obtain ⟨e1,e2⟩:=y;subst e1 e2;exact hs i σ _ h p
  · have e:i=n:=⋯
    subst e;exact .inl ⟨Q3 _,hd σ H p⟩
end
theorem Zj1:typeLookup (.type "list_reverseiterator") "__len__"=pure none:=by rw[typeLookup_type,builtinLookup_eq_fast];kernel_rfl
theorem ZmK:typeLookup (.type "list_reverseiterator") "__length_hint__"=pure (some (.builtin "list_reverseiterator.__length_hint__")):=by rw[typeLookup_type,builtinLookup_eq_fast];kernel_rfl
section
variable{prog:Program}{w:World}{A:Around}{s:Shared}{R:Result->Shared->Prop}
theorem Zj2{I l:Addr}{items:Array Value}(hh:A.handled=none)(hne:l≠I)(S:Addr)(res:Value)(c₀:Nat)(hI:s.heap.IsRevIter I l ((items.size:Int)-1))(hl:s.heap.IsList l items)(hSI:S≠I)(hSl:S≠l)(hn:items.size<=sizeLine)
    (hS:s.heap.get? S=some { cls:=.type "list", data:=.seq #[] c₀ })
    (hR:∀h' tk acc' c',(∀b o,b≠S->b≠I->s.heap.get? b=some o->h'.get? b=some o)->h'.get? S=some { cls:=.type "list", dict:=none,data:=.seq acc' c',slots:=#[] }->ItemsOf (λi v=>items[items.size-1-i]?=some v) acc' items.size->R (.ok (.ret res)) { s with heap:=h',toks:=tk }) :
    wpAny (model prog w) A.in1 (Builtin.List.listExtendWith (.ref S) (.ref I) res)
      (λfin s'=>match fin with | .done f=>R (.ok f) s' | .again c'=>c'.quiet=true/\codeAny (model prog w) A c' R s') (λe s'=>R (.error e) s') s:=by
  have W:=(Walks.listRev (prog:=prog) (w:=w) (A:=A.in1) hh I l hne items).toS;unfold Builtin.List.listExtendWith;refine wpAny_bind (wpAny_typeOf hI.typeIs ?_);have h1:Builtin.List.listSameRef (.ref S) (.ref I)=false:=by simp[Builtin.List.listSameRef,hSI]
  have h2:(Value.type "list_reverseiterator" == Value.type "list")=false:=∅;have h3:(Value.type "list_reverseiterator" == Value.type "tuple")=false:=∅
  simp only[h1,h2,h3,Bool.or_false,Bool.false_eq_true,if_false]
  refine wpAny_bind (wpAny_pyIter_revIter hI ?_);refine wpAny_bind (wpAny_holding ?_);unfold Builtin.List.listLengthHint;refine wpAny_bind (wpAny_specialOf hI.typeIs Zj1 ?_);show wpAny _ A.in1 (specialOf (Value.ref I) (Str.ofString "__length_hint__") >>= _) _ _ _;refine wpAny_bind (wpAny_specialOf hI.typeIs ZmK ?_);generalize hid:("list_reverseiterator.__length_hint__" : String)=id0
  wp_delta
  rw[show splitId id0=some ("list_reverseiterator", "__length_hint__") from by subst hid; decide +kernel];subst hid;refine wpAny_bind (wpAny_isInstance (T := "list_reverseiterator") (b:=true) hI.typeIs (by rw[isSubtype_type]; kernel_rfl) ?_);refine wpAny_ite_split (λhab=>absurd hab ∅) (λ_=>?_);refine wpAny_ite_split (λ_=>?_) (λhab=>absurd ‹4› hab);refine wpAny_ite_split (λhab=>absurd hab ‹4›) (λ_=>?_);refine wpAny_pure ?_;have hst:(0:Nat)<=items.size/\s.heap.IsRevIter I l ((items.size:Int)-1-((0:Nat):Int))/\s.heap.IsList l items:=⟨Qf _,by simpa using hI,hl⟩;refine wpAny_ite_split (λhab=>absurd hab ‹4›) (λ_=>wpAny_pure ⟨plainId_quiet F.plain_extend_loop _,?_⟩);refine codeAny_extend_loopS W hn S ?_ res items.size 0 s #[] c₀ rfl (Qf _) hst hS (ItemsOf.nil _) λs' acc' c' hm hS' hacc=>?_
  · intro hm
    rcases Qe.mp hm with e | e
    · exact hSI e
    · exact hSl (Q6.mp e)
  rw[Moved.eq_with hm];refine hR s'.heap s'.toks acc' c' (λb o hb hb2 e=>hm.heap b o (λhmem=>?_) e) hS' hacc;rcases Qe.mp hmem with e' | hmem
  · exact hb e'
  · exact hb2 (Q6.mp hmem)
theorem ZgT{I l:Addr}{items:Array Value}(hh:A.handled=none)(hne:l≠I)(S:Addr)(hI:s.heap.IsRevIter I l ((items.size:Int)-1))(hl:s.heap.IsList l items)(hSI:S≠I)(hSl:S≠l)(hn:items.size<=sizeLine)
    (hS:s.heap.get? S=some { cls:=.type "list", data:=.seq #[] })
    (hR:∀h' tk acc' c',(∀b o,b≠S->b≠I->s.heap.get? b=some o->h'.get? b=some o)->h'.get? S=some { cls:=.type "list", dict:=none,data:=.seq acc' c',slots:=#[] }->ItemsOf (λi v=>items[items.size-1-i]?=some v) acc' items.size->R (.ok (.ret .none)) { s with heap:=h',toks:=tk }) :
    wpAny (model prog w) A.in1 (Builtin.«list.__init__» ⟨[.ref S,.ref I],[]⟩)
      (λfin s'=>match fin with | .done f=>R (.ok f) s' | .again c'=>c'.quiet=true/\codeAny (model prog w) A c' R s') (λe s'=>R (.error e) s') s:=by
  show wpAny _ _ (do let old ← Builtin.List.listItems (.ref S); Builtin.List.listUpdate (.ref S) (λ_=>#[]); letGo old.toList.reverse; Builtin.List.listExtendWith (.ref S) (.ref I) .none) _ _ s;refine wpAny_bind ?_;unfold Builtin.List.listItems;refine wpAny_bind (wpAny_seqItems hS rfl (wpAny_pure ?_));show wpAny _ _ (updateSeq S (λ_=>#[]) >>= λ_=>letGo (#[]:Array Value).toList.reverse >>= λ_=>Builtin.List.listExtendWith (.ref S) (.ref I) .none) _ _ s;refine wpAny_bind (wpAny_updateSeq hS rfl ?_);have hS₂:=Heap.get?_update_self (Obj.mapSeq (λ_=>(#[]:Array Value))) hS rfl;have oth:∀b o,b≠S->s.heap.get? b=some o->(s.heap.update S (Obj.mapSeq (λ_=>(#[]:Array Value)))).get? b=some o :=
    λb o hb e=>(Heap.get?_update_other _ _ (Ne.symm hb)).trans e
  refine wpAny_bind (wpAny_letGo ?_);refine Zj2 hh hne S .none _ (hI.at λo e=>oth I o (Ne.symm hSI) e) (hl.at λo e=>oth l o (Ne.symm hSl) e) hSI hSl hn hS₂ λh' tk acc' c' hk hS' hacc=>?_;exact hR h' tk acc' c' (λb o hb hb2 e=>hk b o hb hb2 (oth b o hb e)) hS' hacc
end
section
variable{prog:Program}{w:World}{A:Around}{E:Value->Shared->Prop}{s:Shared}
theorem Zet{Q:Value->Shared->Prop}{I l:Addr}{items:Array Value}(hh:A.handled=none)(hne:l≠I)(hI:s.heap.IsRevIter I l ((items.size:Int)-1))(hl:s.heap.IsList l items)(hn:items.size<=sizeLine)
    (hQ:∀h' tk acc' c',(∀b o,b≠I->s.heap.get? b=some o->h'.get? b=some o) →
      h'.get? s.heap.objs.size=some { cls:=.type "list", dict:=none,data:=.seq acc' c',slots:=#[] }->ItemsOf (λi v=>items[items.size-1-i]?=some v) acc' items.size->Q (.ref s.heap.objs.size) { s with heap:=h',toks:=tk }) :
    wpAny (model prog w) A (call (.type "list") [.ref I]) Q E s:=by
  refine callType_codes (Q₁:=λobj s₁=>obj = .ref s.heap.objs.size/\s₁={ s with heap:=s.heap.push { cls:=.type "list", data:=.seq #[] } }) F.called_list (F.typeCall_list_1 _) F.entry_list_init
    (code_list_new _ ⟨rfl,rfl⟩) λobj s₁ h₁=>?_
  obtain ⟨rfl,rfl⟩:=h₁;have hS:(s.heap.push { cls:=.type "list", data:=.seq #[] }).get? s.heap.objs.size=some { cls:=.type "list", data:=.seq #[] }:=Heap.get?_push_size _ rfl;obtain ⟨o1,ho1,_⟩:=id hI;obtain ⟨o2,ho2,_⟩:=id hl;refine ⟨⟨_,hS,rfl⟩,F.args_list_init_2 _ _,ZgT (A:=A.in1) hh hne _ (hI.at λo e=>Heap.get?_push_of_some _ e) (hl.at λo e=>Heap.get?_push_of_some _ e) (Ne.symm (Qi (Heap.lt_size ho1))) (Ne.symm (Qi (Heap.lt_size ho2))) hn hS λh' tk acc' c' hk hS' hacc=>?_⟩;exact ⟨rfl,hQ h' tk acc' c' (λb o hb e=>hk b o (Qi (Heap.lt_size e)) hb (Heap.get?_push_of_some _ e)) hS' hacc⟩
end
section
variable{X:Cx}{e1:Expr}{ta:TA}{p p2 pos pos2:Pos}
inductive ZnD (K:ZZfg) (vs:List V) (H1:Hp) (Q:VK):Prop
 |mk (a:Addr) (xs:List V) (_:vs=[.ref a]) (_:SqL K H1 a xs) (_:∀p,H1 p=none->Q (.ref p) (upd H1 p (.lst xs.reverse))):ZnD K vs H1 Q
def ZpV(K:ZZfg)(ta:TA):TE:=λσ H Q=>ta σ H λvs H1=>ZnD K vs H1 Q
theorem Zlm{its:List Value}{acc:Array Value}(h:ItemsOf (λi v=>its.toArray[its.toArray.size-1-i]?=some v) acc its.toArray.size):acc=its.reverse.toArray:=by
 obtain ⟨h1,h2⟩:=h;have z1:its.toArray.size=its.length:=Qh;have z2:its.reverse.toArray.size=its.length:=Qh.trans Wr;refine Array.ext ⋯ λi g1 g2=>?_;have:=h2 i acc[i] (Array.getElem?_eq_getElem g1);have e:its.reverse.toArray[i]?=some acc[i]:=by
  rw[List.getElem?_toArray,Uf ⋯,<-List.getElem?_toArray,<-this,Qh]
 rw[Array.getElem?_eq_getElem g2] at e;exact (Option.some.inj e).symm
theorem Zeu(hgl:Gl X "list") (hml:X.mg "list" = none) (hg:Gl X "reversed") (hm:X.mg "reversed" = none) (hcalm:X.calm=true) (ha:PA X [e1] ta) (hs:starEach [e1] X.env=[(false,eval e1 X.env)]:=by rfl) (hs2:starEach [.Call (.Name "reversed" p) [e1] [] pos] X.env=[(false,eval (.Call (.Name "reversed" p) [e1] [] pos) X.env)]:=by rfl) :
    PE X (.Call (.Name "list" p2) [.Call (.Name "reversed" p) [e1] [] pos] [] pos2) (ZpV X.K ta):=by
  intro pins s σ H Q I h;refine wpAny_Call_Name_kw (Zdu I hgl hml boot_list ?_);refine PyProof.Rows.callWith_type1 ?_ (by rw[hs2]; rfl) (by rfl);rw[hs2];show wpAny _ _ (spliced ((false,eval (.Call (.Name "reversed" p) [e1] [] pos) X.env)::backTo pos2 (starEach [] X.env))) _ _ s;refine Calls.spliced_cons ?_;refine wpAny_Call_Name_kw (Zdu I hg hm PyProof.Rows.Boot.«reversed» (PyProof.Rows.callWith_type1 (thn (ha pos pins s σ H _ I h) λus s1 ⟨vs,H1,I1,r1,q1⟩=>?_) (by rw[hs]; rfl) (by rfl)));obtain ⟨a,xs,e,hq,q⟩:=q1;subst e;obtain ⟨u,rfl,ru⟩:=Zhi r1
  cases (show u=Value.ref a from ru)
  obtain ⟨its,rv,pl,hz⟩:=I1.list hq;have hl:=rv.length;obtain ⟨oa,hoa,_⟩:=id pl.isList;refine call_reversed_list pl.isList ?_;refine Calls.spliced_nil ?_;have hI:({ s1 with heap:=s1.heap.push (revObj a ((its.toArray.size:Int)-1)) }:Shared).heap.IsRevIter s1.heap.objs.size a ((its.toArray.size:Int)-1):=⟨_,Heap.get?_push_size _ rfl,rfl,rfl⟩;have I2:Inv X pins σ H1 { s1 with heap:=s1.heap.push (revObj a ((its.toArray.size:Int)-1)) }:=I1.kept (t':=s1.toks) λb o e=>Heap.get?_push_of_some _ e;refine Zet (I1.ok.hd hcalm) (Qi (Heap.lt_size hoa)) hI (pl.isList.at λo e=>Heap.get?_push_of_some _ e) (by rw[Qh]; omega) λh' tk acc' c' hk hS' hacc=>?_;have ei:=Zlm hacc;subst ei;have kp:∀b o',s1.heap.get? b=some o'->h'.get? b=some o':=λb o' e=>hk b o' (Qi (Heap.lt_size e)) (Heap.get?_push_of_some _ e);have hp:s1.heap.objs.size<=(s1.heap.push (revObj a ((its.toArray.size:Int)-1))).objs.size:=by rw[Heap.size_push]; omega
  refine ⟨.ref _,_,I1.laid (t':=tk) (h':=h') kp hp ?_,rfl,q _ (I1.hok.fresh hp)⟩;exact ⟨by rw[Wr]; exact hz,_,c',Zlj rv,hS'⟩
end
end L2
namespace My
open PySem L2 PyProof.Rows
section
variable{κ:KX}
def QN(κ:KX)(D:Int)(M:Nat)(x:κ.F):Prop:=match κ with
 | .q=>∃X:Int,x=Rat.divInt X D/\X.natAbs<=M
 | .r _ _=>True
theorem QN.mono{D:Int}{M N:Nat}{x:κ.F}(h:QN κ D M x)(l:M<=N):QN κ D N x:=by
 cases κ with
 |r p hp=>exact trivial
 |q=>obtain ⟨X,e,hX⟩:=h;exact ⟨X,e,Q0 hX l⟩
theorem QN.mul{D E:Int}{M N:Nat}{x y:κ.F}(h:QN κ D M x)(g:QN κ E N y):QN κ (D*E) (M*N) (x*y):=by
 cases κ with
 |r p hp=>exact trivial
 |q =>
  obtain ⟨X,rfl,hX⟩:=h;obtain ⟨Y,rfl,hY⟩:=g;exact ⟨X*Y,U2 _ _,by rw[Qr];exact Qm hX hY⟩
theorem QN.add{D:Int}(hD:0<D){M N:Nat}{x y:κ.F}(h:QN κ D M x)(g:QN κ D N y):QN κ D (M+N) (x+y):=by
 cases κ with
 |r p hp=>exact trivial
 |q =>
  obtain ⟨X,rfl,hX⟩:=h;obtain ⟨Y,rfl,hY⟩:=g;refine ⟨X+Y,?_,Q0 (Int.natAbs_add_le X Y) (Nat.add_le_add hX hY)⟩;show Rat.divInt X D+Rat.divInt Y D=_;rw[Rat.divInt_add_divInt _ _ ⋯ ⋯,W9 (Int.ne_of_gt (W8 hD hD)) ⋯,<-Int.add_mul,W0]
theorem QN.zero{D:Int}{M:Nat}:QN κ D M 0:=by
 cases κ with
 |r p hp=>exact trivial
 |q=>exact ⟨0,(Rat.zero_divInt D).symm,Qf _⟩
theorem QN.b1{D:Int}(hD:0<D)(lD:D.natAbs<2^3000){M:Nat}(lM:M<2^3000){x:κ.F}(h:QN κ D M x):B1 κ x:=by
 cases κ with
 |r p hp=>exact trivial
 |q =>
  obtain ⟨X,rfl,hX⟩:=h;obtain ⟨d1,d2⟩:=Zb4 X hD;refine ⟨?_,?_⟩
  ·show Bits 1000000 (Rat.divInt X D).num;exact Zja d2 ((Bits.of (n:=3000) (Q5 hX lM)).up ∅) (Zjb X hD)
  ·show Bits 4000 ((Rat.divInt X D).den:Int);exact Zja d1 ((Bits.of (n:=3000) lD).up ∅) (λz=>⋯)
theorem ZfB{κ:KX}:QN κ 1 1 1:=by
 cases κ with
 |r p hp=>exact trivial
 |q=>exact ⟨1,rfl,Q3 _⟩
theorem ZrK{t b:Int}(h0:1<=b)(h:b<=4)(ht:t.natAbs<=9):QN .q 12 108 (Rat.divInt t b):=by
 rcases (by omega:b=1\/b=2\/b=3\/b=4) with rfl|rfl|rfl|rfl
 ·exact ⟨t*12,by rw[W9 ∅ ∅];omega,⋯⟩
 ·exact ⟨t*6,by rw[W9 ∅ ∅];omega,⋯⟩
 ·exact ⟨t*4,by rw[W9 ∅ ∅];omega,⋯⟩
 ·exact ⟨t*3,by rw[W9 ∅ ∅];omega,⋯⟩
noncomputable def pI(F G:ZZlk κ)(i:Nat):Nat->Nat->κ.F
 |0,_=>0
 |j+1,k=>pI F G i j k+(if i+j=k then F.getD i 0*G.getD j 0 else 0)
noncomputable def pO(F G:ZZlk κ):Nat->Nat->κ.F
 |0,_=>0
 |i+1,k=>pO F G i k+pI F G i G.length k
noncomputable def ZsE(F G:ZZlk κ)(i j:Nat):ZZlk κ:=(List.range (F.length+G.length)).map λk=>pO F G i k+pI F G i j k
theorem add00{κ:KX}:(0:κ.F)+0=0:=by grind
theorem ZpW{F G:ZZlk κ}{D E:Int}{M N:Nat}(hDE:0<D*E)(hF:∀x∈F,QN κ D M x)(hG:∀x∈G,QN κ E N x)(i:Nat)(hi:i<F.length):∀(j k:Nat),j<=G.length->QN κ (D*E) (j*(M*N)) (pI F G i j k)
 |0,k,_=>QN.zero
 |j+1,k,h=>by
  have ih:=ZpW hDE hF hG i hi j k ⋯;have e:(j+1)*(M*N)=j*(M*N)+M*N:=Nat.succ_mul _ _;rw[e];refine QN.add hDE ih ?_
  split
  ·have a:F.getD i 0∈F:=by rw[Q1,Q4 hi];exact Ql hi
   have b:G.getD j 0∈G:=by rw[Q1,Q4 (show j<G.length by omega)];exact Ql _
   exact QN.mul (hF _ a) (hG _ b)
  ·exact QN.zero
theorem ZpX{F G:ZZlk κ}{D E:Int}{M N:Nat}(hDE:0<D*E)(hF:∀x∈F,QN κ D M x)(hG:∀x∈G,QN κ E N x):∀(i k:Nat),i<=F.length->QN κ (D*E) (i*(G.length*(M*N))) (pO F G i k)
 |0,k,_=>QN.zero
 |i+1,k,h=>by
  have e:(i+1)*(G.length*(M*N))=i*(G.length*(M*N))+G.length*(M*N):=Nat.succ_mul _ _;rw[e];exact QN.add hDE (ZpX hDE hF hG i k ⋯) (ZpW hDE hF hG i ⋯ _ k (Q3 _))
theorem ZpY{F G:ZZlk κ}{i k:Nat}:∀ {j:Nat},i+j<=k->pI F G i j k=0
 |0,_=>rfl
 |j+1,h=>by
  show pI F G i j k+(if i+j=k then F.getD i 0*G.getD j 0 else 0)=0;rw[ZpY ⋯,if_neg ⋯];exact add00
theorem ZpZ{F G:ZZlk κ}{k:Nat}:∀ {i:Nat},i+G.length<=k+1->pO F G i k=0
 |0,_=>rfl
 |i+1,h=>by
  show pO F G i k+pI F G i G.length k=0;rw[ZpZ ⋯,ZpY ⋯];exact add00
theorem ZoF{F G:ZZlk κ}{k:Nat}(h:F.length+G.length<=k+1):pO F G F.length k=0:=ZpZ h
def Mon(F:ZZlk κ):Prop:=1<=F.length/\F.getD (F.length-1) 0=1
noncomputable def Zsn(f:ZZlk κ)(d i:Nat):ZZlk κ:=(List.range d).map λc=>if c+1=d then 0-f.getD i 0 else if c+1=i then 1 else 0
noncomputable def ZsF(f:ZZlk κ):ZZll κ:=(List.range (f.length-1)).map λi=>Zsn f (f.length-1) i
noncomputable def atE:ZZll κ->Nat->Nat->Nat->κ.F
 | [],_,_,_=>0
 |f::fs,s,i,j=>if s<=i/\i<s+(f.length-1)/\j+1=s+(f.length-1) then 0-f.getD (i-s) 0 else if s<=i/\i<s+(f.length-1)/\s<=j then (if i=j+1 then 1 else 0) else atE fs (s+(f.length-1)) i j
end
theorem Zj3{p:Int}(h:p=2\/p=3\/p=5\/p=7\/p=11\/p=97):M2.Prm p:=by
 refine ⟨⋯,λd h1 h2 hd=>?_⟩;have hl:d<10:=by
  refine Uv λz=>?_;have:=M2.sq_mono (a:=10) ⋯ z;omega
 have e:=Uc hd;have s2:=M2.sq_mono (a:=2) ⋯ h1;rcases (by omega:d=2\/d=3\/d=4\/d=5\/d=6\/d=7\/d=8\/d=9) with rfl|rfl|rfl|rfl|rfl|rfl|rfl|rfl <;> omega
theorem Zq8(c:Int):∃m:Int,atI [V.int 2,V.int 3,V.int 5,V.int 7,V.int 11,V.int 97] (c/3%6)=some (.int m)/\PK m:=by
 rcases (by omega:c/3%6=0\/c/3%6=1\/c/3%6=2\/c/3%6=3\/c/3%6=4\/c/3%6=5) with e|e|e|e|e|e <;> rw[e]
 ·exact ⟨2,rfl,.inr ⟨Zj3 ⋯,∅⟩⟩
 ·exact ⟨3,rfl,.inr ⟨Zj3 ⋯,∅⟩⟩
 ·exact ⟨5,rfl,.inr ⟨Zj3 ⋯,∅⟩⟩
 ·exact ⟨7,rfl,.inr ⟨Zj3 ⋯,∅⟩⟩
 ·exact ⟨11,rfl,.inr ⟨Zj3 ⋯,∅⟩⟩
 ·exact ⟨97,rfl,.inr ⟨Zj3 ⋯,∅⟩⟩
inductive ZdM (vs:List V) (H:Hp) (Q:VK) (zE:XK):Prop
 |mk (n:Int) (_:vs=[.int n]) (_:2<=n) (_:n<=999983) (_:∀p:Int,PK p->Q (.int p) H):ZdM vs H Q zE
inductive ZcN (vs:List V) (H:Hp) (Q:VK) (zE:XK):Prop
 |mk (c:Int) (_:vs=[.int c]) (_:∀(H':Hp) (p:Int),Same H H'->PK p->Q (.int p) H'):ZcN vs H Q zE
inductive ZbH (vs:List V) (H:Hp) (Q:VK) (zE:XK):Prop
 |mk (κ:KX) (t:Int) (x:κ.F) (_:vs=[.int κ.P,.int t]) (_:NumV κ t x) (_:∀H' v,Same H H'->NR κ H' v x->Q v H'):ZbH vs H Q zE
inductive Zdb (vs:List V) (H:Hp) (Q:VK) (zE:XK):Prop
 |mk (κ:KX) (u:V) (x:κ.F) (_:vs=[.int κ.P,u]) (_:NR κ H u x) (_:Q (.bl true) H):Zdb vs H Q zE
theorem ZnE{p:Prop}[Decidable p]{Q:V->Hp->Prop}{H:Hp}(h:p)(k:Q (.bl true) H):Q (.bl (decide p)) H:=by rw[decide_eq_true h];exact k
inductive ZcO (vs:List V) (H:Hp) (Q:VK) (zE:XK):Prop
 |mk (κ:KX) (a:Addr) (xs:List V) (f:ZZlk κ) (_:vs=[.int κ.P,.ref a,.int (f.length:Int)]) (_:H a=some (.lst xs)) (_:AllG (NR κ H) xs f) (_:Q (.bl true) H):ZcO vs H Q zE
def Zgf(K:ZZfg)(sp0:Sp):Sp:=λvs H Q _=>∃v,vs=[v]/\((∃i:Int,v = .int i/\Q .non H) ∨
 (∃(t:Addr) (xs:List V) (Pv:Nat->Hp->Prop),v = .ref t/\H t=some (.tup xs)/\Pv 0 H/\(∀i H',i<=xs.length->Pv i H'->H' t=some (.tup xs))/\(∀i x H' (Q':VK),xs[i]?=some x->Pv i H'->(∀u H'',Pv (i+1) H''->Q' u H'')->sp0 [x] H' Q' E0)/\∀H',Pv xs.length H'->Q .non H') ∨
 (∃(t:Addr) (xs:List V) (Pv:Nat->Hp->Prop),v = .ref t/\H t=some (.lst xs)/\xs.length<=100/\Pv 0 H/\(∀i H',i<=xs.length->Pv i H'->H' t=some (.lst xs))/\(∀i x H' (Q':VK),xs[i]?=some x->Pv i H'->(∀u H'',Pv (i+1) H''->Q' u H'')->sp0 [x] H' Q' E0)/\∀H',Pv xs.length H'->Q .non (upd H' t (.lst (xs++[.non])))))
theorem ZgU(K:ZZfg):PySem.W.kitOne K (.type "int") (.type "tuple")=some false:=ZdT K ‹4› ‹4› ‹4›
theorem ZeR(K:ZZfg):PySem.W.kitOne K (.type "int") (.type "list")=some false:=ZdT K ‹4› ‹4› ‹4›
theorem ZfZ(K:ZZfg):PySem.W.kitOne K (.type "tuple") (.type "list")=some false:=ZdT K ‹4› ‹4› ‹4›
theorem Zf0(K:ZZfg):PySem.W.kitOne K (.type "list") (.type "tuple")=some false:=ZdT K ‹4› ‹4› ‹4›
def spF:Sp:=λ_ _ _ _=>False
theorem Zln{K:ZZfg}{κ:KX}{H:Hp}{v:V}{x:κ.F}{Q:VK}{E:XK}(n:NR κ H v x)(k:Q .non H):Zgf K (Zgf K spF) [v] H Q E:=by
 cases κ with
 |r p hp=>exact ⟨v,rfl,.inl ⟨_,n,k⟩⟩
 |q =>
  obtain ⟨a,rfl,h⟩:=n;refine ⟨_,rfl,.inr (.inl ⟨a,_,λ_ H'=>H'=H,rfl,h,rfl,λi H' _ e=>by rw[e];exact h,λi x' H' Q' hx e k'=>?_,λH' e=>by rw[e];exact k⟩)⟩;subst e
  match i,hx with
  |0,hx=>cases hx;exact ⟨_,rfl,.inl ⟨_,rfl,k' _ _ rfl⟩⟩
  |1,hx=>cases hx;exact ⟨_,rfl,.inl ⟨_,rfl,k' _ _ rfl⟩⟩
  |i+2,hx=>simp at hx
theorem Zjh{n:Nat}(h:1<=n):ixN n (-1)=some (n-1):=by
 unfold ixN;rw[if_neg ∅,if_pos ⋯]
 congr 1
 omega
theorem Zck{κ:KX}{l:ZZlk κ}{i:Nat}(h:i<l.length):l[i]?=some (l.getD i 0):=by
 rw[Q1,Q4 h];rfl
theorem Za1{κ:KX}{H:Hp}{xs:List V}{f:ZZlk κ}(h:AllG (NR κ H) xs f){i:Nat}(hi:i<f.length):∃v,xs[i]?=some v/\NR κ H v (f.getD i 0):=by
 obtain ⟨v,hv⟩:=ZaV (Zck hi) h.1.symm;obtain ⟨x,hx,nx⟩:=h.get hv;rw[Zck hi] at hx
 cases hx
 exact ⟨v,hv,nx⟩
inductive ZdN (vs:List V) (H:Hp) (Q:VK) (zE:XK):Prop
 |mk (κ:KX) (c:Int) (_:vs=[.int κ.P,.int c]) (_:∀H' v (x:κ.F),Same H H'->NR κ H' v x->QN κ 12 108 x->Q v H'):ZdN vs H Q zE
theorem Zbv{κ:KX}{H:Hp}{xs:List V}{f:ZZlk κ}(h:AllG (NR κ H) xs f)(r:Nat):AllG (NR κ H) (xs.take r) (f.take r):=by
 obtain ⟨l,h⟩:=h;refine ⟨by rw[Qa,Qa,l],λi v d hv hd=>?_⟩;rw[We] at hv hd
 by_cases c:i<r
 ·rw[if_pos c] at hv hd;exact h i v d hv hd
 ·rw[if_neg c] at hv;cases hv
def Zp0{κ:KX}(f:ZZlk κ):Prop:=1<=f.length/\f.length<=8/\∀x∈f,B1 κ x
structure ChOk {κ:KX} (fs:ZZll κ):Prop where
 l1:1<=fs.length
 l7:fs.length<=7
 ok:∀f∈fs,Zp0 f
structure Chn (κ:KX) (H:Hp) (ca:Addr) (n:Nat):Prop where
 ex:∃(as:ZZla) (fs:ZZll κ),H ca=some (.lst (as.map V.ref))/\RowsX κ H as fs/\fs.length<=n/\∀f∈fs,Zp0 f
noncomputable abbrev Km1(κ:KX):κ.F:=0-1
theorem Zp1{κ:KX}:NumV κ (-1) (Km1 κ):=by
  cases κ with
  | q =>
    show Rat.num (0-1:Rat) = -1/\Rat.den (0-1:Rat)=1;have e:(0-1:Rat) = -1:=by grind
    rw[e]; exact ⟨rfl,rfl⟩
  | r p h=>exact ⟨∅,by
      show ((Fin.val (Km1 (.r p h)):Nat):Int)=_;have h2:=h.two;have e:Fin.val (Km1 (.r p h))=(p-Fin.val (K1 (.r p h))+Fin.val (K0 (.r p h)))%p:=rfl;rw[e,ZgM,Ze0,Nat.add_zero,Nat.mod_eq_of_lt ⋯];have:(-1:Int)%p=(p:Int)-1:=by
        rw[<-Int.add_emod_right,Ul ⋯ ⋯]; omega
      rw[this]; omega⟩
theorem ZmL{κ:KX}(x:κ.F):Km1 κ*x=0-x:=by grind
theorem Zq9{κ:KX}:B1 κ (Km1 κ):=Zlc ((ZfB (κ:=κ)).b1 ∅ ∅ ∅)
section
variable{κ:KX}
noncomputable def Zf1(f g:ZZlk κ):Nat->κ.F
 |0=>0
 |k+1=>Zf1 f g k+f.getD k 0*g.getD k 0
noncomputable def ZfC(f g:ZZlk κ):κ.F:=Zf1 f g f.length
theorem Zlo{f g:ZZlk κ}{i:Nat}{x y:κ.F}(hx:f[i]?=some x)(hy:g[i]?=some y):Zf1 f g (i+1)=Zf1 f g i+x*y:=by
 show Zf1 f g i+f.getD i 0*g.getD i 0=_;rw[Q1,Q1,hx,hy];rfl
theorem Zit{D E:Int}{M N:Nat}{f g:ZZlk κ}(hDE:0<D*E)(hf:∀x∈f,QN κ D M x)(hg:∀x∈g,QN κ E N x):∀k,k<=f.length->k<=g.length->QN κ (D*E) (k*(M*N)) (Zf1 f g k)
 |0,_,_=>QN.zero
 |k+1,h1,h2=>by
  rw[Nat.succ_mul];have a:f.getD k 0∈f:=by rw[Q1,Q4 (show k<f.length by omega)];exact Ql _
  have b:g.getD k 0∈g:=by rw[Q1,Q4 (show k<g.length by omega)];exact Ql _
  exact QN.add hDE (Zit hDE hf hg k ⋯ ⋯) (QN.mul (hf _ a) (hg _ b))
end
theorem Zji{x:Rat}{A:Int}(hA:0<A)(h:(x.den:Int) ∣ A):x=Rat.divInt (x.num*(A/x.den)) A:=by
 have hd:=(Zbf x).pos;obtain ⟨c,rfl⟩:=h;rw[Int.mul_ediv_cancel_left c ⋯];have:Rat.divInt x.num x.den=Rat.divInt (x.num*c) (x.den*c):=by
  rw[W9 ⋯ ⋯];rw[W0,Qv c]
 rw[<-this,W3]
theorem Ziu{X Y D:Int}(hD:0<D):Rat.divInt X D+Rat.divInt Y D=Rat.divInt (X+Y) D:=by
 rw[Rat.divInt_add_divInt _ _ ⋯ ⋯,W9 (Int.ne_of_gt (W8 hD hD)) ⋯,<-Int.add_mul,W0]
def tS(f g:List Rat)(A C:Int):Nat->Int
 |0=>0
 |k+1=>tS f g A C k+(f.getD k 0).num*(A/(f.getD k 0).den)*(g.getD k 0).num*(C/(g.getD k 0).den)
theorem ZnF{f g:List Rat}{A C:Int}(hA:0<A)(hC:0<C)(dA:∀x∈f,(x.den:Int) ∣ A)(dC:∀x∈g,(x.den:Int) ∣ C):∀k,k<=f.length->k<=g.length->Rat.divInt (tS f g A C k) (A*C)=Zf1 (κ:=.q) f g k
 |0,_,_=>Rat.zero_divInt _
 |k+1,h1,h2=>by
  have a:f.getD k 0∈f:=by rw[Q1,Q4 (show k<f.length by omega)];exact Ql _
  have b:g.getD k 0∈g:=by rw[Q1,Q4 (show k<g.length by omega)];exact Ql _
  have ih:=ZnF hA hC dA dC k ⋯ ⋯;have e1:=Zji hA (dA _ a);have e2:=Zji hC (dC _ b);have e3:(f.getD k 0)*(g.getD k 0)=Rat.divInt ((f.getD k 0).num*(A/(f.getD k 0).den)*(g.getD k 0).num*(C/(g.getD k 0).den)) (A*C):=by
   conv=>lhs;rw[e1,e2]
   rw[U2,<-W0]
  show Rat.divInt (tS f g A C k+_) (A*C)=Zf1 (κ:=.q) f g k+(f.getD k 0:Rat)*(g.getD k 0:Rat);rw[<-Ziu (W8 hA hC),ih,e3]
def W60(f:List Rat):Prop:=∀x∈f,x.num.natAbs<=10^500/\x.den<=10^200
inductive Zb5 (vs:List V) (H:Hp) (Q:VK) (zE:XK):Prop
 |mk (s:Addr) (t b:Int) (_:vs=[.ref s,.int t,.int b]) (_:0<b) (_:b.natAbs<=10^1000) (_:∀(r:Addr) (x y:Int),H r=none->Fc x y->x*b=t*y->Q (.ref r) (upd H r (.tup [.int x,.int y]))):Zb5 vs H Q zE
inductive ZgV (CF:Addr) (vs:List V) (H:Hp) (Q:VK) (zE:XK):Prop
 |mk (s r1 r2:Addr) (xs ys:List V) (f g:List Rat) (B C:Int) (_:vs=[.ref s,.ref r1,.ref r2]) (_:FrA CF H s) (_:H r1=some (.lst xs)) (_:H r2=some (.lst ys)) (_:AllG (NR .q H) xs f) (_:AllG (NR .q H) ys g) (_:f.length=g.length) (_:f.length<=100) (_:W60 f) (_:W60 g) (_:0<B) (_:B.natAbs<=10^200) (_:(∀x∈f,((Rat.den x:Nat):Int) ∣ B)) (_:0<C) (_:C.natAbs<=10^200) (_:(∀x∈g,((Rat.den x:Nat):Int) ∣ C)) (_:∀H' v,Same H H'->NR .q H' v (ZfC (κ:=.q) f g)->Q v H'):ZgV CF vs H Q zE
inductive ZgW (CR:Addr) (vs:List V) (H:Hp) (Q:VK) (zE:XK):Prop
 |mk (p:Nat) (hp:PrN p) (s r1 r2:Addr) (xs ys:List V) (f g:List (KX.r p hp).F) (_:vs=[.ref s,.ref r1,.ref r2]) (_:ReA CR p H s) (_:H r1=some (.lst xs)) (_:H r2=some (.lst ys)) (_:AllG (NR (.r p hp) H) xs f) (_:AllG (NR (.r p hp) H) ys g) (_:f.length=g.length) (_:f.length<=100) (_:∀H' v,Same H H'->NR (.r p hp) H' v (ZfC f g)->Q v H'):ZgW CR vs H Q zE
def ZfD(P:Program)(w:World)(K:ZZfg)(mg:ZZmg)(base:Heap)(CF CR:Addr):Prop :=
 ∀(κ:KX) (H:Hp) (s:Addr),KdX CF CR κ H s->∃C dx fs ps dvs sp,H s=some (.ins C dx fs)/\Cls K C/\HasM P w K mg base C "sum_of_products" 3 ps dvs sp/\fs.lookup ("sum_of_products":Str)=none/\dvs=[] ∧
  ∀(H':Hp) (r1 r2:Addr) (xs ys:List V) (f g:ZZlk κ) (D E M N:Nat) (Q:VK),Same H H'->H' r1=some (.lst xs)->H' r2=some (.lst ys)->AllG (NR κ H') xs f->AllG (NR κ H') ys g->f.length=g.length->f.length<=100->(∀x∈f,QN κ (D:Int) M x)->(∀x∈g,QN κ (E:Int) N x)->0<D->D<=10^200->0<E->E<=10^200->M<=10^500->N<=10^500->(∀H'' v,Same H' H''->NR κ H'' v (ZfC f g)->Q v H'')->sp [.ref s,.ref r1,.ref r2] H' Q E0
theorem ZnG{D M:Nat}(hD:0<D)(lD:D<=10^200)(lM:M<=10^500){f:List Rat}(h:∀x∈f,QN .q (D:Int) M x):W60 f/\∀x∈f,((Rat.den x:Nat):Int) ∣ (D:Int):=by
 refine ⟨λx hx=>?_,λx hx=>?_⟩
 ·obtain ⟨X,e,hX⟩:=h x hx;have e:x=Rat.divInt X D:=e;obtain ⟨d1,d2⟩:=Zb4 X (show (0:Int)<(D:Int) by omega);rw[<-e] at d1 d2;refine ⟨?_,?_⟩
  ·by_cases z:X=0
   ·have:=Zjb X (show (0:Int)<(D:Int) by omega) z;rw[<-e] at this;rw[this];exact Qf _
   ·exact Q0 (Zbd d2 z) (Q0 hX lM)
  ·have:=Zbd d1 (show (D:Int)≠0 by omega);rw[Qj,Qj] at this;omega
 ·obtain ⟨X,e,hX⟩:=h x hx;have e:x=Rat.divInt X D:=e;rw[e];exact (Zb4 X (show (0:Int)<(D:Int) by omega)).1
theorem Zd5{n i:Nat}(h:n<=10^i)(hi:i<=1000:=by decide):n<=10^1000:=Q0 h (Q7 ∅ hi)
theorem Zdp{n i:Nat}(h:n<=10^i)(hi:i<=2000:=by decide):n<=10^2000:=Q0 h (Q7 ∅ hi)
theorem ZnH:10^2000<2^8000:=by decide +kernel
theorem ZoG{i j:Int}(h:i.natAbs<=10^2000)(h':j.natAbs<=10^2000):IntMulOk i j :=
 .of_bits (Q0 (ZdA (n:=8000) (Q5 h ZnH)) ∅) (Q0 (ZdA (n:=8000) (Q5 h' ZnH)) ∅)
theorem Zra{a b:Int}{i j:Nat}(ha:a.natAbs<=10^i)(hb:b.natAbs<=10^j):(a*b).natAbs<=10^(i+j):=by
 rw[Qr,Wp];exact Qm ha hb
theorem ZnI{A b:Int}:(A/b).natAbs<=A.natAbs:=Int.natAbs_ediv_le_natAbs A b
section
variable{P:Program}{w:World}{K:ZZfg}{mg:ZZmg}{base:Heap}{CF CR:Addr}
theorem sc_Fractions_common_bottom:FnScope ["self","some","bottom","one"] ["self","some"] (Zah ZaP):=‹2›
theorem Ziv(h:HereM K CF "common_bottom" "Fractions.common_bottom" ZaP) (h_divisor:Has P w K mg base "divisor" 1 ["one","other"] ZaW):HasM P w K mg base CF "common_bottom" 2 ["self","some"] [] (ZbG K):=by
 refine h.hasM (λ_ _ F=>F.b2 λ_ _ _ _ _ _ _ _=>rfl) λf fd F=>F.ok sc_Fractions_common_bottom (λvs H Q E h=>?_) (λcdv A outer s H vs Q E hr h=>?_)
 ·obtain ⟨_,_,_,_,_,rfl,_⟩:=h
  rfl
 obtain ⟨sf,r,xs,f,B,rfl,hr1,al,hB,bB,dvB,k⟩:=h;have nd:=sc_Fractions_common_bottom.nd;refine ⟨_,(Zac (Zak (i:=2) nd rfl (Or.inl rfl) Zad)
  (Zac (Za2 PassesOwn.never rfl (ZaD (pv 1)) (Zaq (i:=3) nd rfl (Or.inl rfl)) (Zae (ZaB (Zar Zgo (Zan Zbo (pv 2) (Zao Zax (pv 3) Zad (λ_ _=>rfl))) Zad (Zav _)) (Zae (Zak (i:=2) nd rfl (Or.inl rfl) (Zan ZaC (Zan ZbX (pv 2) (Zam h_divisor hr (by rfl) (Zaa (pv 2) (Zaa (Zao Zax (pv 3) Zad (λ_ _=>rfl)) Zab)))) (Zao Zax (pv 3) Zad (λ_ _=>rfl))))) Zat)))
  (Zae (Zal (pv 2))))),?_⟩
 have la:=al.1;refine ⟨_,rfl,r,rfl,⟨_,SqL.of hr1⟩,?_⟩;refine ZbV (xs:=xs) (λi σ H2=>∃(A:Int) (z:Option V),σ=[some (.ref sf),some (.ref r),some (.int A),z]/\H2=H/\ZnB .q (f.take i) A) ⟨1,none,rfl,rfl,∅,λx hx=>by simp at hx,λB _=>Int.one_dvd _⟩ ?_ ?_ ?_
 ·rintro i σ H2-⟨A,z,rfl,rfl,-⟩;exact SqL.of hr1
 ·rintro i v σ H2 hv ⟨A,z,rfl,rfl,hA,dv,mn⟩;obtain ⟨x,hx,a,rfl,ha⟩:=al.get hv;have hd:=(Zbf x).pos;have mx:=Qc hx;have hAB:A ∣ B:=mn B λy hy=>dvB y (U4 hy);have bA:Bits 4000 A:=bB.le (Zbd hAB ⋯);have bd:Bits 4000 (Rat.den x:Int):=bB.le (Zbd (dvB x mx) ⋯);have tk:f.take (i+1)=f.take i++[x]:=by rw[W5,hx];rfl
  refine ⟨_,rfl,_,rfl,a,_,1,_,rfl,rfl,SqT.of ha,rfl,_,_,rfl,rfl,(show (Rat.den x:Int)≠0 by omega),rfl,_,rfl,?_⟩;refine ZeN (λz1=>?_) (λz1=>?_)
  ·obtain ⟨p1,d1,d2,lm⟩:=ZmE hA hd;have g0:(Int.gcd A (Rat.den x:Int):Int)≠0:=by have:=M3.gcd_ne (a:=A) (b:=(Rat.den x:Int)) ⋯;omega
   have gb:Bits 4000 (Int.gcd A (Rat.den x:Int):Int):=bA.le (Zbd (U1 A (Rat.den x:Int)) ⋯);have fb:=M3.fdiv_le (U1 A (Rat.den x:Int)) g0;refine ⟨_,rfl,_,rfl,_,rfl,a,_,1,_,rfl,rfl,SqT.of ha,rfl,A,_,rfl,_,_,rfl,rfl,⟨g0,gb⟩,_,rfl,a,_,1,_,rfl,rfl,SqT.of ha,rfl,_,_,rfl,rfl,Bits.mulG ((bA.le fb).up ∅) bd,?_⟩;refine ⟨_,_,rfl,rfl,p1,λy hy=>?_,λB' hB'=>?_⟩
   ·rw[tk] at hy;rcases Qx.mp hy with q|q
    ·exact Int.dvd_trans (dv y q) d1
    ·rw[Q6.mp q];exact d2
   ·rw[tk] at hB';exact lm B' (mn B' λy hy=>hB' y (Qx.mpr (.inl hy))) (hB' x (Qx.mpr (.inr (Q6.mpr rfl))))
  ·refine ⟨A,_,rfl,rfl,hA,λy hy=>?_,λB' hB'=>?_⟩
   ·rw[tk] at hy;rcases Qx.mp hy with q|q
    ·exact dv y q
    ·rw[Q6.mp q];have z2:A.fmod (Rat.den x:Int)=0:=z1;rw[Wm _ ⋯] at z2;exact Int.dvd_of_emod_eq_zero z2
   ·rw[tk] at hB';exact mn B' λy hy=>hB' y (Qx.mpr (.inl hy))
 ·rintro σ H2 ⟨A,z,rfl,rfl,hA⟩;rw[la,Wy] at hA;exact ⟨_,rfl,k A hA⟩
theorem Zdc:FnScope ["self","some"] ["self","some"] (Zah Zbh):=‹2›
theorem Zj4(h:HereM K CR "common_bottom" "Kind.common_bottom" Zbh):HasM P w K mg base CR "common_bottom" 1 ["self","some"] [] Zes:=by
 refine h.hasM (λ_ _ F=>F.b2 λ_ _ _ _ _ _ _ _=>rfl) λf fd F=>F.ok Zdc (λvs H Q E h=>?_) (λcdv A outer s H vs Q E hr h=>?_)
 ·obtain ⟨_,_,rfl,_⟩:=h
  rfl
 obtain ⟨sf,r,rfl,k⟩:=h;exact ⟨_,(Zae (Zal Zad)),k⟩
theorem Ziw(kd:Kd K mg CF CR)(hF:HasM P w K mg base CF "common_bottom" 2 ["self","some"] [] (ZbG K)) (hR:HasM P w K mg base CR "common_bottom" 2 ["self","some"] [] Zes):Ziq P w K mg base CF CR:=by
 intro κ H s hk
 cases κ with
 |q =>
  obtain ⟨dx,h⟩:=hk;exact ⟨CF,dx,[],_,_,_,h,kd.clF,hF,rfl,rfl,λr xs f B Q hr al hB bB dv k=>⟨s,r,xs,f,B,rfl,hr,al,hB,bB,dv,k⟩⟩
 |r p hp =>
  obtain ⟨dx,h⟩:=hk;exact ⟨CR,dx,fsR p,_,_,_,h,kd.clR,hR,Zc7 _ ∅,rfl,λr xs f B Q hr al hB bB dv k=>⟨s,r,rfl,k 1 rfl⟩⟩
end
section
variable{P:Program}{w:World}{K:ZZfg}{mg:ZZmg}{base:Heap}{CF CR cN:Addr}
theorem Zix{tk:Tok}(h:HereD K CF "number" "Fractions.number" ZaO #[.int 1 tk]) (c:ExcC K mg "NoNumber" cN) (h_divisor:Has P w K mg base "divisor" 1 ["one","other"] ZaW):HasMX P w K mg base CF "number" 2 ["self","top","bottom"] [] Zb5:=by
 refine h.hasMX (ds:=[]) .nil (λf fd T F=>F.binds λ_ _ _ _ _ _ us hl=>by obtain ⟨_,_,_,rfl⟩:=Zdm (show us.length=3 by simpa using hl);exact ⟨_,rfl,rfl⟩) λf fd T F=>?_;refine F.okx sc_Fractions_number (λvs H Q E h=>?_) (λcdv A outer s H vs Q E hr h=>?_)
 ·obtain ⟨_,_,_,rfl,_⟩:=h
  rfl
 obtain ⟨sf,t,b,rfl,hb,lb,k⟩:=h;have nd:=sc_Fractions_number.nd;refine ⟨_,(Zac (ZaB (Zar Zby (pv 2) Zad (Zav _)) (Zae (Zca c ZeP rfl (by rfl) (Zaa ZeK Zab))) Zat)
  (Zac (Zak (i:=3) nd rfl (Or.inl rfl) (Zam h_divisor hr (by rfl) (Zaa (pv 1) (Zaa (pv 2) Zab))))
  (Zac (ZaB (Zar Zef (pv 2) Zad (Zav _)) (Zae (Zak (i:=3) nd rfl (Or.inl rfl) (Zds ZbT (pv 3)))) Zat)
  (Zae (Zal (ZbU (Zaa (Zan ZeY (pv 1) (pv 3)) (Zaa (Zan ZeY (pv 2) (pv 3)) Zab)))))))),?_⟩
 refine ⟨_,rfl,rfl,_,rfl,?_⟩;refine Zbx (λz=>absurd z ⋯) (λ_=>?_);refine ⟨_,rfl,_,rfl,t,b,rfl,?_⟩;refine ⟨_,rfl,_,_,rfl,rfl,_,rfl,?_⟩;refine Za8 (λhn=>absurd hn ⋯) (λhn=>?_);have hg:=M3.gcd_ne (a:=t) (b:=b) ⋯;have gl:Int.gcd t b<=b.natAbs:=Ud ⋯ (Ue.mpr (Wb t b));have hg1:(Int.gcd t b:Int)≠0/\((Int.gcd t b:Int)).natAbs<=10^1000:=⟨⋯,Q0 (show _<=b.natAbs from gl) lb⟩;obtain ⟨l1,l2,l3,l4,l5⟩:=M3.low (t:=t) hb;refine ⟨_,rfl,_,rfl,_,_,rfl,rfl,hg1,_,rfl,_,rfl,_,_,rfl,rfl,hg1,(by show 2<=sizeLine;decide),λr hr'=>?_⟩;exact k r _ _ hr' ⟨l2,l1⟩ l3
theorem sc_Fractions_sum_of_products:FnScope ["self","some","others","ahead","behind","total","one","other"] ["self","some","others"] (Zah ZaH):=‹2›
theorem ZmM(h:HereM K CF "sum_of_products" "Fractions.sum_of_products" ZaH) (cl:Cls K CF) (Tz:mg "zip"=none) (hB:HasM P w K mg base CF "common_bottom" 2 ["self","some"] [] (ZbG K)) (hN:HasMX P w K mg base CF "number" 2 ["self","top","bottom"] [] Zb5):HasM P w K mg base CF "sum_of_products" 3 ["self","some","others"] [] (ZgV CF):=by
 refine h.hasM (λ_ _ F=>F.b3 λ_ _ _ _ _ _ _ _ _=>rfl) λf fd F=>F.ok sc_Fractions_sum_of_products (λvs H Q E h=>?_) (λcdv A outer s H vs Q E hr h=>?_)
 ·obtain ⟨_,_,_,_,_,_,_,_,_,rfl,_⟩:=h
  rfl
 obtain ⟨sf,r1,r2,xs,ys,f1,f2,B1',C1',rfl,⟨dx,hs⟩,h1,h2,al1,al2,lfg,l100,w1,w2,b0,bl,bd,c0,cl',cd,k⟩:=h;have nd:=sc_Fractions_sum_of_products.nd;refine ⟨_,(Zac (Zak (i:=3) nd rfl (Or.inl rfl) (Zaz (pv 0) hr (Zaa (pv 1) Zab)))
  (Zac (Zak (i:=4) nd rfl (Or.inl rfl) (Zaz (pv 0) hr (Zaa (pv 2) Zab)))
  (Zac (Zak (i:=5) nd rfl (Or.inl rfl) Zad)
  (Zac (Za2 PassesOwn.never rfl (ZhC (by rfl) Tz (Zaa (pv 1) (Zaa (pv 2) Zab))) (Zkk rfl (ZbJ (Zaq (i:=6) nd rfl (Or.inl rfl)) (ZbJ (Zaq (i:=7) nd rfl (Or.inl rfl)) Ze7))) (Zae (ZiZ (i:=5) nd rfl (Or.inl rfl) (Zan ZaC (Zan ZaC (Zan ZaC (Zao Zax (pv 6) Zad (λ_ _=>rfl)) (Zan ZeY (pv 3) (Zao Zax (pv 6) Zad (λ_ _=>rfl)))) (Zao Zax (pv 7) Zad (λ_ _=>rfl))) (Zan ZeY (pv 4) (Zao Zax (pv 7) Zad (λ_ _=>rfl)))) Znn)))
  (Zae (Zal (ZaI (pv 0) Zcr hr (Zaa (pv 5) (Zaa (Zan ZaC (pv 3) (pv 4)) Zab))))))))),?_⟩
 have lx:=al1.1;have ly:=al2.1;have bitsB:∀ {Z:Int},Z.natAbs<=10^200->Bits 4000 Z:=fun {Z} hz=>Bits.of (Q5 hz (Q8 (show 10^200<2^1000 by decide) (Q7 ∅ ∅)))
 refine ⟨_,rfl,sf,CF,dx,[],_,_,ZbG K,rfl,hs,cl,hB,rfl,_,rfl,sf,r1,xs,f1,B1',rfl,h1,al1,b0,bitsB bl,bd,λA ⟨hA,dA,mA⟩=>?_⟩;refine ⟨_,rfl,sf,CF,dx,[],_,_,ZbG K,rfl,hs,cl,hB,rfl,_,rfl,sf,r2,ys,f2,C1',rfl,h2,al2,c0,bitsB cl',cd,λC ⟨hC,dC,mC⟩=>?_⟩;have lA:A.natAbs<=10^200:=Q0 (Zbd (mA _ bd) ⋯) bl;have lC:C.natAbs<=10^200:=Q0 (Zbd (mC _ cd) ⋯) cl';refine ⟨_,rfl,_,rfl,r1,r2,rfl,⟨_,SqL.of h1⟩,⟨_,SqL.of h2⟩,?_⟩;refine ZkU (xs:=xs) (ys:=ys) (λi σ H2=>∃z6 z7:Option V,σ=[some (.ref sf),some (.ref r1),some (.ref r2),some (.int A),some (.int C),some (.int (tS f1 f2 A C i)),z6,z7]/\Same H H2) ⟨none,none,rfl,Same.refl H⟩ ?_ ?_ ?_
 ·rintro i σ H2 ⟨z6,z7,rfl,S⟩;exact ⟨SqL.of (S _ _ h1),SqL.of (S _ _ h2)⟩
 ·rintro i u v Tp σ H2 hx hy nT ⟨z6,z7,rfl,S⟩;obtain ⟨x,hx',t,rfl,ht⟩:=al1.get hx;obtain ⟨y,hy',t',rfl,ht'⟩:=al2.get hy;have ex:f1.getD i 0=x:=by rw[Q1,hx'];rfl
  have ey:f2.getD i 0=y:=by rw[Q1,hy'];rfl
  have hb:=(Zbf x).pos;have hd:=(Zbf y).pos;obtain ⟨la,lb⟩:=w1 x (Qc hx');obtain ⟨lc,ld⟩:=w2 y (Qc hy');have ST:=Zag nT (.tup [.ref t,.ref t']);refine ⟨Tp,_,rfl,SqT.of Zaf,rfl,_,_,rfl,_,_,rfl,rfl,?_⟩;generalize upd H2 Tp (.tup [.ref t,.ref t'])=H3 at *;have S3:=S.trans ST;have qt:=SqT.of (K:=K) (S3 _ _ ht);have qu:=SqT.of (K:=K) (S3 _ _ ht');have eA:A.fdiv (x.den:Int)=A/x.den:=Int.fdiv_eq_ediv_of_nonneg _ ⋯;have eC:C.fdiv (y.den:Int)=C/y.den:=Int.fdiv_eq_ediv_of_nonneg _ ⋯;have lA':(A.fdiv (x.den:Int)).natAbs<=10^200:=by rw[eA];exact Q0 ZnI lA
  have lC':(C.fdiv (y.den:Int)).natAbs<=10^200:=by rw[eC];exact Q0 ZnI lC
  have m1:=Zra la lA';have m2:=Zra m1 lc;refine ⟨_,rfl,_,rfl,t,_,_,_,rfl,rfl,qt,rfl,_,rfl,_,rfl,t,_,_,_,rfl,rfl,qt,rfl,_,_,rfl,rfl,⟨(show (x.den:Int)≠0 by omega),Zd5 (by rw[Qj];exact lb)⟩,_,_,rfl,rfl,ZoG (Zdp la) (Zdp lA'),_,rfl,t',_,_,_,rfl,rfl,qu,rfl,_,_,rfl,rfl,ZoG (Zdp m1) (Zdp lc),_,rfl,_,rfl,t',_,_,_,rfl,rfl,qu,rfl,_,_,rfl,rfl,⟨(show (y.den:Int)≠0 by omega),Zd5 (by rw[Qj];exact ld)⟩,_,_,rfl,rfl,ZoG (Zdp m2) (Zdp lC'),_,_,rfl,rfl,?_⟩;refine ⟨some (.ref t),some (.ref t'),?_,S3⟩;have e:tS f1 f2 A C (i+1)=tS f1 f2 A C i+x.num*(A.fdiv (x.den:Int))*y.num*(C.fdiv (y.den:Int)):=by
   show tS f1 f2 A C i+_=_;rw[ex,ey,eA,eC]
  rw[e]
  rfl
 ·rintro i σ H2 hi ⟨z6,z7,rfl,S⟩;have hi:i=f1.length:=⋯;subst hi;have hAC:0<A*C:=W8 hA hC;refine ⟨_,rfl,sf,CF,dx,[],_,_,Zb5,rfl,S _ _ hs,cl,hN,rfl,_,rfl,_,rfl,_,rfl,_,_,rfl,rfl,ZrF (Zd5 lA) (Zd5 lC),sf,_,_,rfl,hAC,Zd5 (Zra lA lC),λr x y nr fc e=>?_⟩;obtain ⟨q,q1,q2⟩:=Zjd fc;have y0:=fc.pos;have eq:q=ZfC (κ:=.q) f1 f2:=by
   have t:=ZnF hA hC dA dC f1.length (Q3 _) ⋯;have:q=Rat.divInt (tS f1 f2 A C f1.length) (A*C):=by
    rw[<-W3 q,q1,q2,W9 ⋯ ⋯];exact e
   exact this.trans t
  refine k _ _ (S.trans (Zag nr _)) ⟨r,rfl,?_⟩;rw[Zaf,<-eq];show some (HO.tup [V.int x,V.int y])=some (HO.tup [V.int (Rat.num q),V.int ((Rat.den q:Nat):Int)]);rw[q1,q2]
theorem Zct:FnScope ["self","some","others"] ["self","some","others"] (Zah ZaY):=‹2›
theorem ZmN(h:HereM K CR "sum_of_products" "Rests.sum_of_products" ZaY) (cl:Cls K CR) (nP:NoAttr K CR "prime") (Tz:mg "zip"=none) (Ts:mg "sum"=none):HasM P w K mg base CR "sum_of_products" 3 ["self","some","others"] [] (ZgW CR):=by
 refine h.hasM (λ_ _ F=>F.b3 λ_ _ _ _ _ _ _ _ _=>rfl) λf fd F=>F.ok Zct (λvs H Q E h=>?_) (λcdv A outer s H vs Q E hr h=>?_)
 ·obtain ⟨_,_,_,_,_,_,_,_,_,rfl,_⟩:=h
  rfl
 obtain ⟨p,hp,sr,r1,r2,xs,ys,f1,f2,rfl,⟨dx,hs⟩,h1,h2,al1,al2,lfg,l100,k⟩:=h;refine ⟨_,(Zae (Zal (Zan Zbo (Zaj (Zmu rfl) (by rfl) Ts boot_sum (Zaa (ZaU ["one","other"] [] rfl (ZhC (by rfl) Tz (Zaa (pv 1) (Zaa (pv 2) Zab))) (by exact λ_ _ _ _=>(Zib (n:=2) K rfl rfl (ZbJ (Zaq (i:=0) (show (["one","other"]:List Str).Nodup by decide +kernel) rfl (Or.inl rfl)) (ZbJ (Zaq (i:=1) (show (["one","other"]:List Str).Nodup by decide +kernel) rfl (Or.inl rfl)) Ze7)))) (by exact λ_ _ _ _=>(Zan ZaC (pv 0) (pv 1))) trivial) Zab)) (Zdv (pv 0) rfl)))),?_⟩;have lx:=al1.1;have ly:=al2.1;have h2':=hp.two;refine ⟨_,rfl,_,rfl,r1,r2,rfl,⟨_,SqL.of h1⟩,⟨_,SqL.of h2⟩,?_⟩;refine Zfg (K:=K) (a:=r1) (b:=r2) (xs:=xs) (ys:=ys) (λi zs H2=>Same H H2/\∃ms:List Int,zs=ms.map V.int/\(ms.sum%p:Int)=((Fin.val (Zf1 f1 f2 i:Fin p):Nat):Int)) ⋯ ⟨Same.refl H,[],rfl,?_⟩ (λi zs H2 q=>⟨SqL.of (q.1 _ _ h1),SqL.of (q.1 _ _ h2)⟩) ?_ ?_
 ·show (0:Int)%p=((Fin.val (K0 (.r p hp)):Nat):Int);rw[Ze0];simp
 ·rintro i u v Tp zs H2 hx hy hl nT ⟨S,ms,rfl,es⟩;obtain ⟨x,hx',e1⟩:=al1.get hx;obtain ⟨y,hy',e2⟩:=al2.get hy;have e1:u = .int (Fin.val (x:Fin p)):=e1;have e2:v = .int (Fin.val (y:Fin p)):=e2;subst e1 e2;have ST:=Zag nT (.tup [.int (Fin.val (x:Fin p)),.int (Fin.val (y:Fin p))]);generalize upd H2 Tp (.tup [.int (Fin.val (x:Fin p)),.int (Fin.val (y:Fin p))])=H3 at *;refine ⟨_,rfl,_,rfl,_,_,rfl,rfl,Zbt (Za4 hp x) (Za4 hp y),S.trans ST,ms++[(Fin.val (x:Fin p):Int)*Fin.val (y:Fin p)],by simp,?_⟩;have ed:(Zf1 f1 f2 (i+1):Fin p)=(Zf1 f1 f2 i:Fin p)+(x:Fin p)*(y:Fin p):=Zlo hx' hy';rw[ed,Fin.val_add,Fin.val_mul,List.sum_append]
  simp only[List.sum_cons,List.sum_nil,Int.add_zero]
  rw[Int.add_emod,es,Ww,Int.natCast_add,Ww,W1,Int.add_emod (Fin.val (Zf1 f1 f2 i:Fin p):Int)]
  first|done|simp
 ·rintro zs H2 hl ⟨S,ms,rfl,es⟩ D hD;have S4:=S.trans (Zag hD (.lst (ms.map V.int)));refine ⟨D,_,rfl,SqL.of Zaf,?_⟩;refine ⟨_,rfl,sr,CR,dx,_,_,rfl,S4 _ _ hs,cl,nP,Zb3 p,_,_,rfl,rfl,(show (p:Int)≠0 by omega),?_⟩;show Q (V.int (ms.sum.fmod p)) _;refine k _ _ S4 ?_;show V.int (ms.sum.fmod p)=V.int ((Fin.val (Zf1 f1 f2 f1.length:Fin p):Nat):Int);rw[Wm _ ⋯,es]
  congr 4
  omega
theorem ZmO(kd:Kd K mg CF CR)(hF:HasM P w K mg base CF "sum_of_products" 3 ["self","some","others"] [] (ZgV CF)) (hR:HasM P w K mg base CR "sum_of_products" 3 ["self","some","others"] [] (ZgW CR)):ZfD P w K mg base CF CR:=by
 intro κ H s hk
 cases κ with
 |q =>
  obtain ⟨dx,h⟩:=hk;refine ⟨CF,dx,[],_,_,_,h,kd.clF,hF,rfl,rfl,λH' r1 r2 xs ys f g D E M N Q S h1 h2 a1 a2 lfg l100 qf qg d0 dl e0 el ml nl k=>?_⟩;obtain ⟨w1,v1⟩:=ZnG d0 dl ml qf;obtain ⟨w2,v2⟩:=ZnG e0 el nl qg;exact ⟨s,r1,r2,xs,ys,f,g,(D:Int),(E:Int),rfl,⟨dx,S _ _ h⟩,h1,h2,a1,a2,lfg,l100,w1,w2,⋯,by rw[Qj];exact dl,v1,⋯,by rw[Qj];exact el,v2,k⟩
 |r p hp =>
  obtain ⟨dx,h⟩:=hk;exact ⟨CR,dx,fsR p,_,_,_,h,kd.clR,hR,Zc7 _ ∅,rfl,λH' r1 r2 xs ys f g D E M N Q S h1 h2 a1 a2 lfg l100 qf qg d0 dl e0 el ml nl k=>⟨p,hp,s,r1,r2,xs,ys,f,g,rfl,⟨dx,S _ _ h⟩,h1,h2,a1,a2,lfg,l100,k⟩⟩
end
section
variable{κ:KX}
noncomputable def Zso(κ:KX)(n i:Nat):ZZlk κ:=(List.range n).map λj=>if i=j then 1 else 0
noncomputable def Zp2(κ:KX)(n:Nat):ZZll κ:=(List.range n).map (Zso κ n)
noncomputable def Zsp(B:ZZll κ)(j:Nat):ZZlk κ:=B.map λr=>r.getD j 0
noncomputable def Zrb(B:ZZll κ)(m:Nat):ZZll κ:=(List.range m).map (Zsp B)
noncomputable def mulT(A B:ZZll κ)(m:Nat):ZZll κ:=A.map λr=>(Zrb B m).map λc=>ZfC c r
noncomputable def ZhM(c:κ.F)(A:ZZll κ):ZZll κ:=A.map λr=>r.map (c * ·)
noncomputable def Zsq(A B:ZZll κ):ZZll κ:=List.zipWith (λf g=>List.zipWith (· + ·) f g) A B
theorem ZgX(c:κ.F)(A:ZZll κ):(ZhM c A).length=A.length:=by unfold ZhM;simp
theorem ZmP{m:Nat}{A:ZZll κ}(h:Wid m A)(c:κ.F):Wid m (ZhM c A):=λf hf=>by
 unfold ZhM at hf;obtain ⟨r,hr,rfl⟩:=W4.mp hf;rw[Q2];exact h r hr
end
structure TabL (κ:KX) (H:Hp) (a:Addr) (rs:ZZla) (R:ZZll κ) (m:Nat):Prop where
 l:H a=some (.lst (rs.map V.ref))
 r:RowsX κ H rs R
 w:Wid m R
 n1:1<=R.length
 n9:R.length<=100
 m9:m<=100
theorem TabL.same{κ:KX}{H H':Hp}{a:Addr}{rs:ZZla}{R:ZZll κ}{m:Nat}(h:TabL κ H a rs R m)(S:Same H H'):TabL κ H' a rs R m:=⟨S _ _ h.l,h.r.same S,h.w,h.n1,h.n9,h.m9⟩
theorem TabL.fst{κ:KX}{H:Hp}{a:Addr}{rs:ZZla}{R:ZZll κ}{m:Nat}(h:TabL κ H a rs R m):∃a0 xs f,rs[0]?=some a0/\R[0]?=some f/\H a0=some (.lst xs)/\AllG (NR κ H) xs f/\xs.length=m:=by
 have n1:=h.n1;have hf:R[0]?=some R[0]:=Q4 ⋯;obtain ⟨a0,ha⟩:=ZaV hf h.r.1.symm;obtain ⟨xs,hx,al⟩:=h.r.2 0 a0 _ ha hf;exact ⟨a0,xs,_,ha,hf,hx,al,by rw[al.1];exact h.w _ (Ql _)⟩
inductive ZcP (vs:List V) (H:Hp) (Q:VK) (zE:XK):Prop
 |mk (κ:KX) (a:Addr) (rs:ZZla) (R:ZZll κ) (m:Nat) (_:vs=[.ref a]) (_:TabL κ H a rs R m) (_:Q (.bl (decide (R.length=m))) H):ZcP vs H Q zE
inductive Zbw (cF:Addr) (vs:List V) (H:Hp) (Q:VK) (E:XK):Prop
 |mk (κ:KX) (a:Addr) (rs:ZZla) (R:ZZll κ) (m:Nat) (_:vs=[.ref a]) (_:TabL κ H a rs R m) (_:(R.length=m->Q .non H)) (_:(R.length≠m->E (.ref cF) none H)):Zbw cF vs H Q E
inductive Zev (CF CR:Addr) (vs:List V) (H:Hp) (Q:VK) (zE:XK):Prop
 |mk (κ:KX) (s a:Addr) (cv:V) (c:κ.F) (rs:ZZla) (R:ZZll κ) (m:Nat) (_:vs=[.ref s,cv,.ref a]) (_:KdX CF CR κ H s) (_:NR κ H cv c) (_:B1 κ c) (_:TabL κ H a rs R m) (_:AllR (B1 κ) R) (_:∀(H':Hp) (D:Addr) (rs':ZZla),Same H H'->TabL κ H' D rs' (ZhM c R) m->(∀a∈rs',H a=none)->H D=none->Q (.ref D) H'):Zev CF CR vs H Q zE
inductive ZbS (CF CR:Addr) (vs:List V) (H:Hp) (Q:VK) (zE:XK):Prop
 |mk (κ:KX) (s a:Addr) (rs:ZZla) (R:ZZll κ) (m:Nat) (D M:Nat) (_:vs=[.ref s,.ref a]) (_:KdX CF CR κ H s) (_:TabL κ H a rs R m) (_:AllR (QN κ (D:Int) M) R) (_:0<D) (_:D<=10^100) (_:M<=10^500) (_:∀(H':Hp) (tp D':Addr) (rs':ZZla) (A:Int) (x:κ.F),Same H H'->H' tp=some (.tup [.ref D',.int A])->ZnB κ R.flatten A->NumV κ A x->TabL κ H' D' rs' (ZhM x R) m->Q (.ref tp) H'):ZbS CF CR vs H Q zE
theorem Zp3{κ:KX}{D M:Nat}(hD:0<D){x:κ.F}(h:QN κ (D:Int) M x):DvB κ (D:Int) x:=by
 cases κ with
 |r p hp=>exact trivial
 |q =>
  obtain ⟨X,e,_⟩:=h;show ((Rat.den x:Nat):Int) ∣ D;have e:x=Rat.divInt X D:=e;rw[e];exact (Zb4 X (show (0:Int)<(D:Int) by omega)).1
theorem ZcV{κ:KX}{D M:Nat}(hD:0<D)(lD:D<=10^200)(lM:M<=10^500){x:κ.F}(h:QN κ (D:Int) M x):B1 κ x:=by
 have l:(10:Nat)^500<2^3000:=Q8 (show 10^500<2^2000 by decide) (Q7 ∅ ∅);have l2:(10:Nat)^200<2^3000:=Q8 (show 10^200<2^1000 by decide) (Q7 ∅ ∅);exact h.b1 ⋯ (by rw[Qj];omega) ⋯
theorem Zlp{κ:KX}{D M:Nat}(hD:0<D){f:ZZlk κ}{A:Int}(h:∀x∈f,QN κ (D:Int) M x)(b:ZnB κ f A):0<A/\A.natAbs<=D:=by
 cases κ with
 |r p hp =>
  have b:A=1:=b;subst b;exact ⟨∅,hD⟩
 |q =>
  obtain ⟨b0,b1,b2⟩:=b;refine ⟨b0,?_⟩;have:=Zbd (b2 (D:Int) λx hx=>Zp3 (κ:=.q) hD (h x hx)) ⋯;rw[Qj] at this;exact this
theorem ZoH{κ:KX}{A:Int}(h:A.natAbs<=10^140):∃x:κ.F,NumV κ A x:=by
 cases κ with
 |q=>obtain ⟨x,h1,h2⟩:=Zjd (n:=A) (d:=1) ⟨∅,by rw[Int.gcd_one]⟩;exact ⟨x,h1,⋯⟩
 |r p hp =>
  have h2:=hp.two;have a:=Int.emod_nonneg A (show (p:Int)≠0 by omega);have b:=Int.emod_lt_of_pos A (show 0<(p:Int) by omega);exact ⟨(⟨(A%p).toNat,⋯⟩:Fin p),h,by show (((A%p).toNat:Nat):Int)=_;omega⟩
theorem Zlq{κ:KX}{A:Int}{x:κ.F}(h:NumV κ A x):QN κ 1 A.natAbs x:=by
 cases κ with
 |r p hp=>exact trivial
 |q =>
  refine ⟨A,?_,Q3 _⟩;show (x:Rat)=_;have e1:Rat.num x=A:=h.1;have e2:Rat.den x=1:=h.2;rw[<-W3 x,e1,e2];rfl
inductive Zd6 (CF CR:Addr) (vs:List V) (H:Hp) (Q:VK) (zE:XK):Prop
 |mk (κ:KX) (s a c:Addr) (rs:ZZla) (R:ZZll κ) (xs:List V) (f:ZZlk κ) (D E M N:Nat) (_:vs=[.ref s,.ref a,.ref c]) (_:KdX CF CR κ H s) (_:H a=some (.lst (rs.map V.ref))) (_:RowsX κ H rs R) (_:Wid f.length R) (_:R.length<=100) (_:f.length<=100) (_:H c=some (.lst xs)) (_:AllG (NR κ H) xs f) (_:AllR (QN κ (D:Int) M) R) (_:(∀x∈f,QN κ (E:Int) N x)) (_:0<D) (_:D<=10^200) (_:0<E) (_:E<=10^200) (_:M<=10^500) (_:N<=10^500) (_:∀(H':Hp) (D:Addr) (ys:List V),Same H H'->H D=none->H' D=some (.lst ys)->AllG (NR κ H') ys (R.map λr=>ZfC r f)->Q (.ref D) H'):Zd6 CF CR vs H Q zE
section
variable{P:Program}{w:World}{K:ZZfg}{mg:ZZmg}{base:Heap}{CF CR cF:Addr}
theorem ZhN:FnScope ["kind","table","column"] ["kind","table","column"] (Zah ZdD):=‹2›
theorem Zlr(h:Here K mg "sums_with" ZdD) (md:ZfD P w K mg base CF CR):Has P w K mg base "sums_with" 4 ["kind","table","column"] (Zd6 CF CR):=by
 refine h.has (λ_ _ F=>F.b3 λ_ _ _ _ _ _ _ _ _=>rfl) λf fd F=>F.ok ZhN (λvs H Q E h=>?_) (λcdv A outer s H vs Q E hr h=>?_)
 ·obtain ⟨_,_,_,_,_,_,_,_,_,_,_,_,rfl,_⟩:=h
  rfl
 obtain ⟨κ,sk,a,c,rs,R,xs,f,D,E',M,N,rfl,hk,hA,rx,wd,n9,m9,hC,al,qR,qf,d0,d1,e0,e1,m1,n1,k⟩:=h;refine ⟨_,(Zae (Zal (ZaU ["row"] [(0,"kind"),(2,"column")] rfl (ZaD (pv 1)) (by exact λ_ _ _ _=>(Zaq (i:=0) (show (["row","kind","column"]:List Str).Nodup by decide +kernel) rfl (Or.inl rfl))) (by exact λ_ _ _ _=>(Zcs ⟨rfl,rfl,rfl,rfl,rfl⟩ (pv 1) hr (Zaa (pv 0) (Zaa (pv 2) Zab)))) ⟨⟨rfl,rfl,Or.inl rfl⟩,⟨⟨rfl,rfl,Or.inl rfl⟩,trivial⟩⟩))),?_⟩;have lr:=rx.1;refine ⟨_,rfl,a,rfl,⟨_,SqL.of hA⟩,?_⟩;refine ZaG (K:=K) (a:=a) (xs:=rs.map V.ref) (λi ys H2=>Same H H2/\AllG (NR κ H2) ys ((R.take i).map λr=>ZfC r f)) (by rw[Q2];omega) ⟨Same.refl _,.nil⟩ (λi ys H2 _ q=>SqL.of (q.1 _ _ hA)) ?_ ?_
 ·rintro i x ys H2 hx hl ⟨S2,e⟩;obtain ⟨b,hb,rfl⟩:=ZaA hx;obtain ⟨g,hg⟩:=ZaV hb lr;obtain ⟨zs,hz,al2⟩:=rx.2 i b g hb hg;have mg':=Qc hg;have lg:=wd g mg';obtain ⟨Cd,dxd,fsd,psd,dvd,spd,k1,k2,k3,k4,rfl,k5⟩:=md κ H2 sk (hk.same S2);refine ⟨_,rfl,sk,Cd,dxd,fsd,psd,_,spd,rfl,k1,k2,k3.mono ∅,k4,_,rfl,_,rfl,k5 H2 b c zs xs g f D E' M N _ (Same.refl _) (S2 _ _ hz) (S2 _ _ hC) (al2.mono λ_ _ n=>n.same S2) (al.mono λ_ _ n=>n.same S2) lg ⋯ (qR g mg') qf d0 d1 e0 e1 m1 n1 λH3 v S3 nv=>⟨S2.trans S3,?_⟩⟩;rw[W5,hg,Qn];exact (e.mono λ_ _ n=>n.same S3).append (.one nv)
 ·rintro ys H2 hl ⟨S2,e⟩ Dd nD;rw[Q2,lr,Wy] at e;have SD:=Zag nD (.lst ys);exact k _ Dd ys (S2.trans SD) (S2.free nD) Zaf (e.mono λ_ _ n=>n.same SD)
theorem ZhO:FnScope ["table"] ["table"] (Zah ZdB):=‹2›
theorem ZgY(h:Here K mg "is_square" ZdB) (T:Nm mg):Has P w K mg base "is_square" 1 ["table"] ZcP:=by
 refine h.has (λ_ _ F=>F.b1 λ_ _ _ _ _ _ _=>rfl) λf fd F=>F.ok ZhO (λvs H Q E h=>?_) (λcdv A outer s H vs Q E hr h=>?_)
 ·obtain ⟨_,_,_,_,_,rfl,_⟩:=h
  rfl
 obtain ⟨κ,a,rs,R,m,rfl,tb,k⟩:=h;refine ⟨_,(Zae (Zal (Zcg Zby (Zaj Zai (by rfl) T.len boot_len (Zaa (pv 0) Zab)) (Zaj Zai (by rfl) T.len boot_len (Zaa (Zao Zap (pv 0) Zad (λ_ _=>rfl)) Zab)) (Zav _)))),?_⟩;obtain ⟨a0,xs,f,ha,hf,hx,al,lx⟩:=tb.fst;refine ⟨_,rfl,a,_,rfl,.inl (SqL.of tb.l),_,rfl,a,_,0,_,rfl,rfl,SqL.of tb.l,ZaR (i:=0) ha,a0,_,rfl,.inl (SqL.of hx),rfl,?_⟩;have e:decide (V.int ((rs.map V.ref).length:Int)=V.int (xs.length:Int))=decide (R.length=m):=by
  have l:=tb.r.1;rw[Q2,l,lx]
  by_cases z:R.length=m
  ·rw[decide_eq_true z,decide_eq_true (by rw[z])]
  ·rw[decide_eq_false z,decide_eq_false (λy=>z (by injection y;omega))]
 show Q (V.bl (decide (V.int ((rs.map V.ref).length:Int)=V.int (xs.length:Int)))) H;rw[e];exact k
theorem Zf2:FnScope ["table"] ["table"] (Zah ZcE):=‹2›
theorem ZfE(h:Here K mg "need_square" ZcE) (c_NoFit:ExcC K mg "NoFit" cF) (h_is_square:Has P w K mg base "is_square" 1 ["table"] ZcP):HasX P w K mg base "need_square" 2 ["table"] (Zbw cF):=by
 refine h.hasX (λ_ _ F=>F.b1 λ_ _ _ _ _ _ _=>rfl) λf fd F=>F.okx Zf2 (λvs H Q E h=>?_) (λcdv A outer s H vs Q E hr h=>?_)
 ·obtain ⟨_,_,_,_,_,rfl,_⟩:=h
  rfl
 obtain ⟨κ,a,rs,R,m,rfl,tb,k1,k2⟩:=h;refine ⟨_,(Zae (ZaB (Zb6 (ZaF (Zam h_is_square hr (by rfl) (Zaa (pv 0) Zab)))) (Zae (Zca c_NoFit ZeP rfl (by rfl) (Zaa ZeK Zab))) Zat)),?_⟩;refine ⟨_,rfl,κ,a,rs,R,m,rfl,tb,_,rfl,?_⟩
 by_cases z:R.length=m
 ·exact ZpQ z (k1 z)
 ·exact Zoz z ⟨(by show 1<=1000;decide),k2 z⟩
theorem Zls:FnScope ["kind","number","table"] ["kind","number","table"] (Zah Zgv):=‹2›
theorem Zj5(h:Here K mg "scaled" Zgv) (h_scaled_row:Has P w K mg base "scaled_row" 3 ["kind","number","row"] (ZbK CF CR)):Has P w K mg base "scaled" 4 ["kind","number","table"] (Zev CF CR):=by
 refine h.has (λ_ _ F=>F.b3 λ_ _ _ _ _ _ _ _ _=>rfl) λf fd F=>F.ok Zls (λvs H Q E h=>?_) (λcdv A outer s H vs Q E hr h=>?_)
 ·obtain ⟨_,_,_,_,_,_,_,_,rfl,_⟩:=h
  rfl
 obtain ⟨κ,sk,a,cv,c,rs,R,m,rfl,hk,nc,bc,tb,bR,k⟩:=h;refine ⟨_,(Zae (Zal (ZaU ["row"] [(0,"kind"),(1,"number")] rfl (ZaD (pv 2)) (by exact λ_ _ _ _=>(Zaq (i:=0) (show (["row","kind","number"]:List Str).Nodup by decide +kernel) rfl (Or.inl rfl))) (by exact λ_ _ _ _=>(Zam h_scaled_row hr (by rfl) (Zaa (pv 1) (Zaa (pv 2) (Zaa (pv 0) Zab))))) ⟨⟨rfl,rfl,Or.inl rfl⟩,⟨⟨rfl,rfl,Or.inl rfl⟩,trivial⟩⟩))),?_⟩;have lr:=tb.r.1;have n9:=tb.n9;have m9:=tb.m9;refine ⟨_,rfl,a,rfl,⟨_,SqL.of tb.l⟩,?_⟩;refine ZaG (K:=K) (a:=a) (xs:=rs.map V.ref) (λi ys H2=>Same H H2/\∃ds:ZZla,ys=ds.map V.ref/\RowsX κ H2 ds ((R.take i).map λr=>r.map (c * ·))/\∀d∈ds,H d=none) (by rw[Q2];omega) ⟨Same.refl _,[],rfl,.nil,λd h=>nomatch h⟩ (λi ys H2 _ q=>SqL.of (q.1 _ _ tb.l)) ?_ ?_
 ·rintro i x ys H2 hx hl ⟨S2,ds,rfl,rx,fr⟩;obtain ⟨b,hb,rfl⟩:=ZaA hx;obtain ⟨f,hf⟩:=ZaV hb lr;obtain ⟨zs,hz,al⟩:=tb.r.2 i b f hb hf;have mf:=Qc hf;refine ⟨_,rfl,_,rfl,_,rfl,κ,sk,b,cv,c,zs,f,rfl,hk.same S2,nc.same S2,S2 _ _ hz,al.mono (λ_ _ n=>n.same S2),bc,bR f mf,by rw[tb.w f mf];omega,λH3 D ws S3 nD hD e3=>⟨S2.trans S3,ds++[D],by simp,?_,λd hd=>?_⟩⟩
  ·rw[W5,hf,Qn];exact (rx.same S3).snoc hD e3
  ·rcases Qx.mp hd with q|q
   ·exact fr d q
   ·rw[Q6.mp q];exact S2.free nD
 ·rintro ys H2 hl ⟨S2,ds,rfl,rx,fr⟩ D nD;rw[Q2,lr,Wy] at rx;have SD:=Zag nD (.lst (ds.map V.ref));exact k _ D ds (S2.trans SD) ⟨Zaf,rx.same SD,ZmP tb.w c,by rw[ZgX];exact tb.n1,by rw[ZgX];exact tb.n9,tb.m9⟩ fr (S2.free nD)
theorem sc_evenly_freed:FnScope ["kind","table","numbers","row","bottom"] ["kind","table"] (Zah Zci):=‹2›
theorem ZeV(h:Here K mg "evenly_freed" Zci) (mn:ZcL P w K mg base CF CR) (mb:Ziq P w K mg base CF CR) (h_scaled:Has P w K mg base "scaled" 4 ["kind","number","table"] (Zev CF CR)):Has P w K mg base "evenly_freed" 5 ["kind","table"] (ZbS CF CR):=by
 refine h.has (λ_ _ F=>F.b2 λ_ _ _ _ _ _ _ _=>rfl) λf fd F=>F.ok sc_evenly_freed (λvs H Q E h=>?_) (λcdv A outer s H vs Q E hr h=>?_)
 ·obtain ⟨_,_,_,_,_,_,_,_,rfl,_⟩:=h
  rfl
 obtain ⟨κ,sk,a,rs,R,m,D,M,rfl,hk,ta,qR,d0,d1,m1,k⟩:=h;have d2:D<=10^200:=Q0 d1 ∅;have nd:=sc_evenly_freed.nd;refine ⟨_,(Zac (Zak (i:=2) nd rfl (Or.inl rfl) (ZaN Zab))
  (Zac (Za2 PassesOwn.never rfl (ZaD (pv 1)) (Zaq (i:=3) nd rfl (Or.inl rfl)) (Zae (ZaT (ZeU PySem.F.plainAttrs_list PySem.F.slot_list_extend PySem.F.type_list_extend ZkC (pv 2) (Zaa (pv 3) Zab)))))
  (Zac (Zak (i:=4) nd rfl (Or.inl rfl) (Zaz (pv 0) hr (Zaa (pv 2) Zab)))
  (Zae (Zal (ZbU (Zaa (Zam h_scaled hr (by rfl) (Zaa (pv 0) (Zaa (ZaI (pv 0) Zcr hr (Zaa (pv 4) Zab)) (Zaa (pv 1) Zab)))) (Zaa (pv 4) Zab)))))))),?_⟩
 have lr:=ta.r.1;have n9:=ta.n9;have m9:=ta.m9;refine ⟨(by show 0<=sizeLine;decide),λnb nnb=>?_⟩;have Sn:=Zag nnb (.lst []);have qn:=Zaf (H:=H) (a:=nb) (o:=.lst []);generalize upd H nb (.lst [])=H1 at *;refine ⟨_,rfl,a,rfl,⟨_,SqL.of (Sn _ _ ta.l)⟩,?_⟩;refine ZbV (xs:=rs.map V.ref) (λi σ H2=>∃(z3 z4:Option V) (ns:List V),σ=[some (.ref sk),some (.ref a),some (.ref nb),z3,z4]/\Same H H2/\H2 nb=some (.lst ns)/\AllG (NR κ H2) ns (R.take i).flatten/\ns.length<=i*m) ⟨_,_,[],rfl,Sn,qn,by rw[Um];exact .nil,Qf _⟩ ?_ ?_ ?_
 ·rintro i σ H2-⟨z3,z4,ns,rfl,S2,-⟩;exact SqL.of (S2 _ _ ta.l)
 ·rintro i v σ H2 hv ⟨z3,z4,ns,rfl,S2,hn,an,ln⟩;obtain ⟨b,hb,rfl⟩:=ZaA hv;obtain ⟨f,hf⟩:=ZaV hb lr;obtain ⟨zs,hz,al⟩:=ta.r.2 i b f hb hf;have mf:=Qc hf;have hi:i<rs.length:=(Qo.mp hb).1;have lz:zs.length=m:=by rw[al.1];exact ta.w f mf
  have nm:i*m<=100*100:=Qm ⋯ m9;refine ⟨_,rfl,.inl ⟨rfl,_,SqL.of hn⟩,_,rfl,nb,b,ns,zs,rfl,rfl,hn,S2 _ _ hz,Q0 (show ns.length+zs.length<=20000 by omega) ∅,?_⟩;have O:Off [nb] H2 (upd H2 nb (.lst (ns++zs))):=ZaZ (Same.refl H2);refine ⟨_,_,ns++zs,rfl,Off.same O S2 (λz hz=>by rw[Q6.mp hz];exact nnb),Zaf,?_,by rw[Qg,Nat.succ_mul];omega⟩;rw[W5,hf,List.flatten_append];show AllG _ _ ((R.take i).flatten++[f].flatten);rw[show [f].flatten=f by simp];exact (an.mono λ_ _ n=>n.off hn O).append (al.mono λ_ _ n=>(n.same S2).off hn O)
 ·rintro σ H2 ⟨z3,z4,ns,rfl,S2,hn,an,ln⟩;rw[Q2,lr,Wy] at an;have qF:∀x∈R.flatten,QN κ (D:Int) M x:=λx hx=>by
   obtain ⟨f,hf,hx⟩:=List.mem_flatten.mp hx;exact qR f hf x hx
  obtain ⟨Cb,dxb,fsb,psb,dvb,spb,b1,b2,b3,b4,rfl,b5⟩:=mb κ H2 sk (hk.same S2);have bD:Bits 4000 (D:Int):=Bits.of (by rw[Qj];exact Q5 d2 (Q8 (show 10^200<2^1000 by decide) (Q7 ∅ ∅)));refine ⟨_,rfl,sk,Cb,dxb,fsb,psb,_,spb,rfl,b1,b2,b3.mono ∅,b4,_,rfl,b5 nb ns _ (D:Int) _ hn an ⋯ bD (λx hx=>Zp3 d0 (qF x hx)) λA bA=>?_⟩;obtain ⟨A0,Al⟩:=Zlp d0 qF bA;have A140:A.natAbs<=10^140:=Q0 (Q0 Al d1) ∅;obtain ⟨x,nx⟩:=ZoH (κ:=κ) A140;obtain ⟨Cn,dxn,fsn,psn,dvn,spn,k1,k2,k3,k4,rfl,k5⟩:=mn κ H2 sk (hk.same S2);refine ⟨_,rfl,_,rfl,sk,Cn,dxn,fsn,psn,_,spn,rfl,k1,k2,k3.mono ∅,k4,_,rfl,k5 H2 A x _ _ (Same.refl _) nx λv H3 S3 nv=>?_⟩;have bx:B1 κ x:=ZcV (D:=1) ∅ ∅ (Q0 Al (Q0 d2 ∅)) (Zlq nx);refine ⟨_,rfl,κ,sk,a,v,x,rs,R,m,rfl,hk.same (S2.trans S3),nv,bx,ta.same (S2.trans S3),(λf hf y hy=>ZcV d0 d2 m1 (qR f hf y hy)),λH4 D' rs' S4 t4 _ _=>?_⟩;refine ⟨_,rfl,(by show 2<=sizeLine;decide),λtp ntp=>?_⟩;have St:=Zag ntp (.tup [.ref D',.int A]);exact k _ tp D' rs' A x (S2.trans (S3.trans (S4.trans St))) Zaf bA nx (t4.same St)
end
end My
namespace My.Rg
open PySem L2 PyProof.Rows
section
variable{α:Type}[Lean.Grind.CommRing α]
theorem ZrL:(0:α)+0=0:=by grind
def Sg(h:Nat->α):Nat->α
 |0=>0
 |n+1=>Sg h n+h n
theorem Sg_congr{h g:Nat->α}:∀ {n:Nat},(∀i,i<n->h i=g i)->Sg h n=Sg g n
 |0,_=>rfl
 |n+1,e=>by
  show Sg h n+h n=Sg g n+g n;rw[Sg_congr (n:=n) λi hi=>e i ⋯,e n ⋯]
theorem Sg_mul(c:α)(h:Nat->α):∀n,c*Sg h n=Sg (λi=>c*h i) n
 |0=>by show c*0=0;grind
 |n+1=>by
  show c*(Sg h n+h n)=Sg (λi=>c*h i) n+c*h n;rw[<-Sg_mul c h n];grind
theorem Sg_add(h g:Nat->α):∀n,Sg h n+Sg g n=Sg (λi=>h i+g i) n
 |0=>ZrL
 |n+1=>by
  show (Sg h n+h n)+(Sg g n+g n)=Sg (λi=>h i+g i) n+(h n+g n);rw[<-Sg_add h g n];grind
theorem Sg_zero:∀n,Sg (λ_=>(0:α)) n=0
 |0=>rfl
 |n+1=>by show Sg _ n+0=0;rw[Sg_zero n];exact ZrL
theorem Sg_comm(h:Nat->Nat->α)(m:Nat):∀n,Sg (λi=>Sg (λj=>h i j) m) n=Sg (λj=>Sg (λi=>h i j) n) m
 |0=>(Sg_zero m).symm
 |n+1=>by
  show Sg _ n+Sg (λj=>h n j) m=Sg (λj=>Sg (λi=>h i j) n+h n j) m;rw[Sg_comm h m n,Sg_add]
theorem ZbY(h:Nat->α):∀n,Sg h (n+1)=h 0+Sg (λi=>h (i+1)) n
 |0=>by show 0+h 0=h 0+0;grind
 |n+1=>by
  show Sg h (n+1)+h (n+1)=h 0+(Sg (λi=>h (i+1)) n+h (n+1));rw[ZbY h n];grind
theorem Sg_one(h:Nat->α)(i:Nat):∀n,Sg (λl=>h l*(if i=l then 1 else 0)) n=if i<n then h i else 0
 |0=>by rw[if_neg ⋯];rfl
 |n+1=>by
  show Sg _ n+h n*(if i=n then 1 else 0)=_;rw[Sg_one h i n]
  by_cases e:i=n
  ·subst e;rw[if_neg ⋯,if_pos rfl,if_pos ⋯];grind
  ·rw[if_neg e]
   by_cases l:i<n
   ·rw[if_pos l,if_pos ⋯];grind
   ·rw[if_neg l,if_neg ⋯];grind
def sgn(α:Type)[Lean.Grind.CommRing α]:Nat->α
 |0=>1
 |n+1=>0-sgn α n
def skip(j t:Nat):Nat:=if t<j then t else t+1
theorem Zlt{j k:Nat}(h:k<j)(t:Nat):skip j (skip k t)=skip k (skip (j-1) t):=by
 have lo:∀ {j t:Nat},t<j->skip j t=t:=λh=>by unfold skip;rw[if_pos h]
 have hi:∀ {j t:Nat},j<=t->skip j t=t+1:=λh=>by unfold skip;rw[if_neg ⋯]
 by_cases h1:t<k
 ·rw[lo h1,lo (show t<j by omega),lo (show t<j-1 by omega),lo h1]
 ·by_cases h2:t<j-1
  ·rw[hi (show k<=t by omega),lo (show t+1<j by omega),lo h2,hi (show k<=t by omega)]
  ·rw[hi (show k<=t by omega),hi (show j<=t+1 by omega),hi (show j-1<=t by omega),hi (show k<=t+1 by omega)]
def det:Nat->(Nat->Nat->α)->α
 |0,_=>1
 |n+1,a=>Sg (λj=>sgn α j*a 0 j*det n (λi k=>a (i+1) (skip j k))) (n+1)
theorem Zba:∀ {n:Nat} {a b:Nat->Nat->α},(∀i j,i<n->j<n->a i j=b i j)->det n a=det n b
 |0,_,_,_=>rfl
 |n+1,a,b,h=>by
  show Sg _ (n+1)=Sg _ (n+1);refine Sg_congr λj hj=>?_;rw[h 0 j ⋯ hj,Zba (n:=n) (a:=λi k=>a (i+1) (skip j k)) (b:=λi k=>b (i+1) (skip j k)) λi k hi hk=>h _ _ ⋯ (by unfold skip;split <;> omega)]
def Zbn(a:Nat->Nat->α)(r:Nat)(f:Nat->α):Nat->Nat->α:=λi j=>if i=r then f j else a i j
theorem Zew:∀ {n:Nat} {a:Nat->Nat->α} {r:Nat} (f g:Nat->α) (c:α),r<n->det n (Zbn a r λj=>f j+c*g j)=det n (Zbn a r f)+c*det n (Zbn a r g)
 |0,_,_,_,_,_,h=>⋯
 |n+1,a,0,f,g,c,_=>by
  show Sg _ (n+1)=Sg _ (n+1)+c*Sg _ (n+1);rw[Sg_mul,Sg_add];refine Sg_congr λj hj=>?_;have e:∀h:Nat->α,det n (λi k=>Zbn a 0 h (i+1) (skip j k))=det n (λi k=>a (i+1) (skip j k)):=λh=>Zba λi k _ _=>by unfold Zbn;rw[if_neg ⋯]
  rw[e,e,e];show sgn α j*(f j+c*g j)*_=sgn α j*f j*_+c*(sgn α j*g j*_);grind
 |n+1,a,r+1,f,g,c,hr=>by
  show Sg _ (n+1)=Sg _ (n+1)+c*Sg _ (n+1);rw[Sg_mul,Sg_add];refine Sg_congr λj hj=>?_;have e:∀h:Nat->α,det n (λi k=>Zbn a (r+1) h (i+1) (skip j k))=det n (Zbn (λi k=>a (i+1) (skip j k)) r λk=>h (skip j k)):=λh=>Zba λi k _ _=>by
   unfold Zbn
   by_cases q:i=r
   ·rw[if_pos ⋯,if_pos q]
   ·rw[if_neg ⋯,if_neg q]
  rw[e,e,e,Zew (n:=n) (a:=λi k=>a (i+1) (skip j k)) (r:=r) (λk=>f (skip j k)) (λk=>g (skip j k)) c ⋯];have z:∀h:Nat->α,Zbn a (r+1) h 0 j=a 0 j:=λh=>by unfold Zbn;rw[if_neg ⋯]
  rw[z,z,z];grind
theorem Zlu{f:Nat->Nat->α}:∀n,(∀j k,k<j->j<=n->f j k=0-f k (j-1))->Sg (λj=>Sg (λk=>f j k) n) (n+1)=0
 |0,_=>by
  show (0:α)+0=0;grind
 |n+1,h=>by
  have ih:=Zlu n λj k hk hj=>h j k hk ⋯;show Sg (λj=>Sg (λk=>f j k) (n+1)) (n+1)+Sg (λk=>f (n+1) k) (n+1)=0;have e1:Sg (λj=>Sg (λk=>f j k) (n+1)) (n+1)=Sg (λj=>Sg (λk=>f j k) n) (n+1)+Sg (λj=>f j n) (n+1):=by
   rw[Sg_add];rfl
  have e2:Sg (λk=>f (n+1) k) (n+1)=Sg (λj=>(0-1)*f j n) (n+1):=Sg_congr λk hk=>by
   rw[h (n+1) k hk (Q3 _)];show 0-f k n=(0-1)*f k n;grind
  rw[e1,e2,ih,<-Sg_mul];grind
theorem Ziy:∀ {n:Nat} {a:Nat->Nat->α} {r:Nat},r+1<n->(∀j,a r j=a (r+1) j)->det n a=0
 |0,_,_,h,_=>⋯
 |1,_,_,h,_=>⋯
 |n+2,a,0,_,e=>by
  show Sg (λj=>sgn α j*a 0 j*Sg (λk=>sgn α k*a 1 (skip j k)*det n (λi t=>a (i+2) (skip j (skip k t)))) (n+1)) (n+2)=0;have e1:∀j,j<n+2->sgn α j*a 0 j*Sg (λk=>sgn α k*a 1 (skip j k)*det n (λi t=>a (i+2) (skip j (skip k t)))) (n+1)=Sg (λk=>sgn α j*a 0 j*(sgn α k*a 0 (skip j k)*det n (λi t=>a (i+2) (skip j (skip k t))))) (n+1):=λj _=>by
   rw[Sg_mul];exact Sg_congr λk _=>by rw[e (skip j k)]
  rw[Sg_congr e1];refine Zlu (n+1) λj k hk hj=>?_;have s1:skip j k=k:=by unfold skip;rw[if_pos hk]
  have s2:skip k (j-1)=j:=by unfold skip;rw[if_neg ⋯];omega
  have s3:det n (λi t=>a (i+2) (skip j (skip k t)))=det n (λi t=>a (i+2) (skip k (skip (j-1) t))):=Zba λi t _ _=>by rw[Zlt hk]
  have s4:sgn α j=0-sgn α (j-1):=by
   obtain ⟨m,rfl⟩:∃m,j=m+1:=⟨j-1,⋯⟩
   rfl
  rw[s1,s2,s3,s4];grind
 |n+2,a,r+1,h,e=>by
  show Sg _ (n+2)=0;have z:∀j,j<n+2->sgn α j*a 0 j*det (n+1) (λi k=>a (i+1) (skip j k))=0:=λj _=>by
   rw[Ziy (n:=n+1) (a:=λi k=>a (i+1) (skip j k)) (r:=r) ⋯ λk=>e (skip j k)];grind
  rw[Sg_congr z,Sg_zero]
theorem Zcu(a:Nat->Nat->α)(r:Nat):Zbn a r (a r)=a:=by
 funext i j
 unfold Zbn
 split
 ·rename_i e;rw[e]
 ·rfl
theorem ZgZ{n:Nat}{a:Nat->Nat->α}{r:Nat}(f g:Nat->α)(h:r<n):det n (Zbn a r λj=>f j+g j)=det n (Zbn a r f)+det n (Zbn a r g):=by
 have:=Zew (a:=a) f g (1:α) h;have e:(λj=>f j+(1:α)*g j)=λj=>f j+g j:=by funext j;grind
 rw[e] at this;rw[this];grind
theorem ZoI{n:Nat}{a:Nat->Nat->α}{r:Nat}(h:r+1<n):det n (Zbn (Zbn a r (a (r+1))) (r+1) (a r))=0-det n a:=by
 have z:∀x:Nat->α,det n (Zbn (Zbn a r x) (r+1) x)=0:=λx=>Ziy h λj=>by
  unfold Zbn;rw[if_neg ⋯,if_pos rfl,if_pos rfl]
 have c:∀x y:Nat->α,Zbn (Zbn a r x) (r+1) y=Zbn (Zbn a (r+1) y) r x:=λx y=>by
  funext i j
  unfold Zbn
  by_cases e1:i=r+1
  ·rw[if_pos e1,if_neg ⋯,if_pos e1]
  ·by_cases e2:i=r
   ·rw[if_neg e1,if_pos e2,if_pos e2]
   ·rw[if_neg e1,if_neg e2,if_neg e2,if_neg e1]
 have h0:=z λj=>a r j+a (r+1) j;rw[ZgZ _ _ ⋯,c,c,ZgZ _ _ ⋯,ZgZ _ _ ⋯,<-c,<-c,<-c,<-c] at h0;have z1:=z λj=>a r j;have z2:=z λj=>a (r+1) j;have s:Zbn (Zbn a r λj=>a r j) (r+1) (λj=>a (r+1) j)=a:=by
  have e1:Zbn a r (λj=>a r j)=a:=Zcu a r;rw[e1];exact Zcu a (r+1)
 rw[z1,z2,s] at h0;have t:det n (Zbn (Zbn a r λj=>a (r+1) j) (r+1) λj=>a r j)=det n (Zbn (Zbn a r (a (r+1))) (r+1) (a r)):=rfl;rw[t] at h0;generalize det n (Zbn (Zbn a r (a (r+1))) (r+1) (a r))=u at *;generalize det n a=v at *;grind
theorem Ziz{n:Nat}:∀ {d:Nat} {a:Nat->Nat->α} {r:Nat},r+d+1<n->(∀j,a r j=a (r+d+1) j)->det n a=0
 |0,a,r,h,e=>Ziy h e
 |d+1,a,r,h,e=>by
  have s:=ZoI (a:=a) (r:=r+d+1) (n:=n) ⋯;have z:det n (Zbn (Zbn a (r+d+1) (a (r+d+1+1))) (r+d+1+1) (a (r+d+1)))=0:=by
   refine Ziz (d:=d) (r:=r) ⋯ λj=>?_;unfold Zbn;rw[if_neg ⋯,if_neg ⋯,if_neg ⋯,if_pos rfl];exact e j
  rw[z] at s;generalize det n a=v at *;grind
theorem Zjj{n:Nat}{a:Nat->Nat->α}{r s:Nat}(hr:r<n)(hs:s<n)(ne:r≠s)(e:∀j,a r j=a s j):det n a=0:=by
 rcases Nat.lt_or_gt_of_ne ne with h|h
 ·refine Ziz (d:=s-r-1) (r:=r) ⋯ λj=>?_;rw[e j];congr 1;omega
 ·refine Ziz (d:=r-s-1) (r:=s) ⋯ λj=>?_;rw[<-e j];congr 1;omega
theorem ZmQ{n:Nat}{a:Nat->Nat->α}{r s:Nat}(c:α)(hr:r<n)(hs:s<n)(ne:r≠s):det n (Zbn a r λj=>a r j+c*a s j)=det n a:=by
 rw[Zew _ _ _ hr,show Zbn a r (λj=>a r j)=a from Zcu a r,Zjj (a:=Zbn a r λj=>a s j) hr hs ne λj=>by unfold Zbn;rw[if_pos rfl,if_neg (Ne.symm ne)]];grind
theorem Zjk{n:Nat}{a:Nat->Nat->α}{r:Nat}(c:α)(hr:r<n):det n (Zbn a r λj=>c*a r j)=c*det n a:=by
 have e:(λj=>c*a r j)=λj=>0*a r j+c*a r j:=by funext j;grind
 have z:det n (Zbn a r λj=>0*a r j)=0:=by
  have e2:(λj=>(0:α)*a r j)=λj=>0+0*a r j:=by funext j;grind
  have:=Zew (a:=a) (λ_=>(0:α)) (λ_=>0) (0-1) hr;have e3:(λj:Nat=>(0:α)+(0-1)*0)=λ_=>0:=by funext j;grind
  rw[e3] at this;have e4:(λj=>(0:α)*a r j)=λ_=>0:=by funext j;grind
  rw[e4];generalize det n (Zbn a r λ_=>(0:α))=v at *;grind
 rw[e,Zew (λj=>0*a r j) (a r) c hr,z,Zcu];grind
theorem ZnJ(F:Nat->Nat->α):∀n,Sg (λk=>Sg (λi=>F k i) (k+1)) n=Sg (λi=>Sg (λj=>F (i+j) i) (n-i)) n
 |0=>rfl
 |n+1=>by
  show Sg _ n+Sg (λi=>F n i) (n+1)=Sg _ n+Sg (λj=>F (n+j) n) (n+1-n);rw[ZnJ F n,show n+1-n=1 by omega];have e:Sg (λi=>Sg (λj=>F (i+j) i) (n+1-i)) n=Sg (λi=>Sg (λj=>F (i+j) i) (n-i)) n+Sg (λi=>F n i) n:=by
   rw[Sg_add];refine Sg_congr λi hi=>?_;rw[show n+1-i=(n-i)+1 by omega];show _+F (i+(n-i)) i=_;rw[show i+(n-i)=n by omega]
  rw[e];show _+(Sg (λi=>F n i) n+F n n)=_+(0+F (n+0) n);generalize Sg (λi=>Sg (λj=>F (i+j) i) (n-i)) n=S;generalize Sg (λi=>F n i) n=U;show _=_+(0+F n n);grind
theorem ZnK(h:Nat->α):∀n,Sg h n=Sg (λi=>h (n-1-i)) n
 |0=>rfl
 |n+1=>by
  rw[ZbY (λi=>h (n+1-1-i)) n];show Sg h n+h n=h n+_;rw[ZnK h n];have e:Sg (λi=>h (n-1-i)) n=Sg (λi=>h (n+1-1-(i+1))) n:=Sg_congr λi _=>by rw[show n+1-1-(i+1)=n-1-i by omega]
  rw[e];grind
end
structure Ps (α:Type) where
 c:Nat->α
namespace Ps
section
variable{α:Type}[Lean.Grind.CommRing α]
def nc(n:Nat):α:=@NatCast.natCast α Lean.Grind.Semiring.natCast n
def ic(i:Int):α:=@IntCast.intCast α Lean.Grind.Ring.intCast i
theorem ext{f g:Ps α}(h:∀n,f.c n=g.c n):f=g:=by
 cases f;cases g
 congr 1
 funext n
 exact h n
def add(f g:Ps α):Ps α:=⟨λn=>f.c n+g.c n⟩
def mul(f g:Ps α):Ps α:=⟨λn=>Sg (λi=>f.c i*g.c (n-i)) (n+1)⟩
def neg(f:Ps α):Ps α:=⟨λn => - f.c n⟩
def con(x:α):Ps α:=⟨λn=>if n=0 then x else 0⟩
def pow(f:Ps α):Nat->Ps α
 |0=>con 1
 |n+1=>mul (pow f n) f
theorem con_mul(x:α)(f:Ps α)(n:Nat):(mul (con x) f).c n=x*f.c n:=by
 show Sg (λi=>(if i=0 then x else 0)*f.c (n-i)) (n+1)=_;rw[ZbY];have e:Sg (λi=>(if i+1=0 then x else 0)*f.c (n-(i+1))) n=Sg (λ_=>(0:α)) n:=Sg_congr λi _=>by rw[if_neg ⋯];grind
 rw[e,Sg_zero,if_pos rfl];show x*f.c n+0=_;grind
theorem Zgg(f g:Ps α):mul f g=mul g f:=ext λn=>by
 show Sg _ (n+1)=Sg _ (n+1);rw[ZnK];refine Sg_congr λi hi=>?_;rw[show n+1-1-i=n-i by omega,show n-(n-i)=i by omega];grind
theorem Zp4(f g h:Ps α):mul (mul f g) h=mul f (mul g h):=ext λn=>by
 show Sg (λk=>Sg (λi=>f.c i*g.c (k-i)) (k+1)*h.c (n-k)) (n+1)=Sg (λi=>f.c i*Sg (λj=>g.c j*h.c (n-i-j)) (n-i+1)) (n+1);have e:Sg (λk=>Sg (λi=>f.c i*g.c (k-i)) (k+1)*h.c (n-k)) (n+1)=Sg (λk=>Sg (λi=>f.c i*(g.c (k-i)*h.c (n-k))) (k+1)) (n+1):=Sg_congr λk _=>by
  have e1:Sg (λi=>f.c i*g.c (k-i)) (k+1)*h.c (n-k)=h.c (n-k)*Sg (λi=>f.c i*g.c (k-i)) (k+1):=by grind
  rw[e1,Sg_mul];refine Sg_congr λi _=>?_;grind
 rw[e,ZnJ (λk i=>f.c i*(g.c (k-i)*h.c (n-k))) (n+1)];refine Sg_congr λi hi=>?_;rw[Sg_mul,show n+1-i=n-i+1 by omega];refine Sg_congr λj _=>?_;rw[show i+j-i=j by omega,show n-(i+j)=n-i-j by omega]
theorem Zjl(f g h:Ps α):mul f (add g h)=add (mul f g) (mul f h):=ext λn=>by
 show Sg _ (n+1)=Sg _ (n+1)+Sg _ (n+1);rw[Sg_add];refine Sg_congr λi _=>?_;show f.c i*(g.c (n-i)+h.c (n-i))=_;grind
theorem Zlv(f:Ps α):mul (con 1) f=f:=ext λn=>by rw[con_mul];grind
theorem Zjm(f:Ps α):mul (con 0) f=con 0:=ext λn=>by
 rw[con_mul];show 0*f.c n=if n=0 then 0 else 0
 split <;> grind
theorem ZiA{x y:α}(h:x=y):con x=con y:=by rw[h]
instance instRing:Lean.Grind.CommRing (Ps α) where
 add:=add
 mul:=mul
 neg:=neg
 sub f g:=add f (neg g)
 natCast:=⟨λn=>con (nc n)⟩
 ofNat n:=⟨con (OfNat.ofNat n)⟩
 nsmul:=⟨λn f=>mul (con (nc n)) f⟩
 npow:=⟨pow⟩
 intCast:=⟨λi=>con (ic i)⟩
 zsmul:=⟨λi f=>mul (con (ic i)) f⟩
 add_zero f:=ext λn=>by
  show f.c n+(if n=0 then 0 else 0)=f.c n
  split <;> grind
 add_comm f g:=ext λn=>by show f.c n+g.c n=g.c n+f.c n;grind
 add_assoc f g h:=ext λn=>by show f.c n+g.c n+h.c n=f.c n+(g.c n+h.c n);grind
 mul_assoc:=Zp4
 mul_one f:=(Zgg f (con 1)).trans (Zlv f)
 one_mul f:=Zlv f
 left_distrib:=Zjl
 right_distrib f g h:=by
  show mul (add f g) h=add (mul f h) (mul g h);rw[Zgg,Zjl,Zgg h f,Zgg h g]
 zero_mul f:=Zjm f
 mul_zero f:=(Zgg f (con 0)).trans (Zjm f)
 pow_zero f:=rfl
 pow_succ f n:=rfl
 ofNat_succ n:=ext λk=>by
  show (if k=0 then OfNat.ofNat (n+1) else 0)=(if k=0 then OfNat.ofNat n else 0)+(if k=0 then (1:α) else 0)
  split
  ·exact Lean.Grind.Semiring.ofNat_succ n
  ·grind
 ofNat_eq_natCast n:=ZiA (Lean.Grind.Semiring.ofNat_eq_natCast n)
 nsmul_eq_natCast_mul n f:=rfl
 neg_add_cancel f:=ext λn=>by
  show-f.c n+f.c n=if n=0 then 0 else 0
  split <;> grind
 sub_eq_add_neg f g:=rfl
 neg_zsmul i f:=ext λn=>by
  show (mul (con (ic (-i))) f).c n = - (mul (con (ic i)) f).c n;rw[con_mul,con_mul,show (ic (-i):α) = - ic i from Lean.Grind.Ring.intCast_neg i];grind
 zsmul_natCast_eq_nsmul n f:=by
  show mul (con (ic (n:Int))) f=mul (con (nc n)) f;rw[ZiA (show (ic (n:Int):α)=nc n from Lean.Grind.Ring.intCast_natCast n)]
 intCast_ofNat n:=ZiA (Lean.Grind.Ring.intCast_ofNat n)
 intCast_neg i:=ext λn=>by
  show (if n=0 then (ic (-i):α) else 0) = - (if n=0 then ic i else 0)
  split
  ·exact Lean.Grind.Ring.intCast_neg i
  ·grind
 mul_comm:=Zgg
theorem c_add(f g:Ps α)(n:Nat):(f+g).c n=f.c n+g.c n:=rfl
theorem c_mul(f g:Ps α)(n:Nat):(f*g).c n=Sg (λi=>f.c i*g.c (n-i)) (n+1):=rfl
theorem c_sub(f g:Ps α)(n:Nat):(f-g).c n=f.c n-g.c n:=by
 show f.c n + - g.c n=_;grind
theorem c_zero(n:Nat):(0:Ps α).c n=0:=by show (if n=0 then (0:α) else 0)=0;split <;> rfl
theorem c_one(n:Nat):(1:Ps α).c n=if n=0 then 1 else 0:=rfl
theorem c_Sg(h:Nat->Ps α)(n:Nat):∀m,(Sg h m).c n=Sg (λi=>(h i).c n) m
 |0=>c_zero n
 |m+1=>by
  show (Sg h m+h m).c n=_;rw[c_add,c_Sg h n m]
  rfl
end
end Ps
section
variable{α:Type}[Lean.Grind.CommRing α]
theorem Zex{j t:Nat}(h:t<j):skip j t=t:=by unfold skip;rw[if_pos h]
theorem ZdO{j t:Nat}(h:j<=t):skip j t=t+1:=by unfold skip;rw[if_neg ⋯]
theorem ZfF:∀(n:Nat) (B:Nat->Nat->α),(∀j,j<n->B n j=0)->det (n+1) B=B n n*det n B
 |0,B,_=>by
  show 0+1*B 0 0*1=B 0 0*1;grind
 |n+1,B,h=>by
  show Sg (λj=>sgn α j*B 0 j*det (n+1) (λi k=>B (i+1) (skip j k))) (n+2)=B (n+1) (n+1)*Sg (λj=>sgn α j*B 0 j*det n (λi k=>B (i+1) (skip j k))) (n+1);show Sg _ (n+1)+sgn α (n+1)*B 0 (n+1)*det (n+1) (λi k=>B (i+1) (skip (n+1) k))=_;rw[ZfF n (λi k=>B (i+1) (skip (n+1) k)) λj hj=>by rw[Zex ⋯];exact h j ⋯];show Sg _ (n+1)+sgn α (n+1)*B 0 (n+1)*(B (n+1) (skip (n+1) n)*det n (λi k=>B (i+1) (skip (n+1) k)))=_;rw[Zex (show n<n+1 by omega),h n ⋯,Sg_mul];have e:Sg (λj=>sgn α j*B 0 j*det (n+1) (λi k=>B (i+1) (skip j k))) (n+1)=Sg (λj=>B (n+1) (n+1)*(sgn α j*B 0 j*det n (λi k=>B (i+1) (skip j k)))) (n+1):=Sg_congr λj hj=>by
   rw[ZfF n (λi k=>B (i+1) (skip j k)) λk hk=>h _ (by unfold skip;split <;> omega)];show sgn α j*B 0 j*(B (n+1) (skip j n)*_)=_;rw[ZdO (show j<=n by omega)];generalize (det n _:α)=D;grind
  rw[e];generalize (Sg _ (n+1):α)=S;generalize (det n _:α)=D;grind
def lin(x y:α):Ps α:=⟨λn=>if n=0 then x else if n=1 then y else 0⟩
theorem Zg0(f:Ps α)(x y:α)(n:Nat):(f*lin x y).c n=f.c n*x+(if n=0 then 0 else f.c (n-1)*y):=by
 rw[Ps.c_mul]
 match n with
 |0 =>
  show 0+f.c 0*x=f.c 0*x+0;grind
 |n+1 =>
  show (Sg (λi=>f.c i*(lin x y).c (n+1-i)) n+f.c n*(lin x y).c (n+1-n))+f.c (n+1)*(lin x y).c (n+1-(n+1))=_;have e:Sg (λi=>f.c i*(lin x y).c (n+1-i)) n=Sg (λ_=>(0:α)) n:=Sg_congr λi hi=>by
   show f.c i*(if n+1-i=0 then x else if n+1-i=1 then y else 0)=0;rw[if_neg ⋯,if_neg ⋯];grind
  rw[e,Sg_zero,show n+1-n=1 by omega,show n+1-(n+1)=0 by omega,if_neg ⋯,show n+1-1=n by omega];show 0+f.c n*y+f.c (n+1)*x=_;grind
def unz(a:Nat->Nat->α):Nat->Nat->Ps α:=λi j=>lin (if j=i then 1 else 0) (0-a i j)
def wv(a:Nat->Nat->α)(s:Nat):Nat->Nat->α
 |0,j=>a s j
 |t+1,j=>Sg (λi=>wv a s t i*a i j) s
def yv(a:Nat->Nat->α)(s i:Nat):Ps α:=⟨λn=>match n with
 |0=>0
 |t+1=>wv a s t i⟩
def cn(a:Nat->Nat->α)(s:Nat):Ps α:=⟨λn=>match n with
 |0=>1
 |1=>0-a s s
 |t+2=>0-Sg (λi=>wv a s t i*a i s) s⟩
theorem ZnL(h:Nat->α)(n:Nat):0-Sg h n=Sg (λi=>0-h i) n:=by
 have e:0-Sg h n=(0-1)*Sg h n:=by grind
 rw[e,Sg_mul];exact Sg_congr λi _=>by grind
theorem Zj6(a:Nat->Nat->α){s j:Nat}(hj:j<s):unz a s j+Sg (λi=>yv a s i*unz a i j) s=0:=Ps.ext λn=>by
 rw[Ps.c_add,Ps.c_Sg,Ps.c_zero];have e:Sg (λi=>(yv a s i*unz a i j).c n) s=Sg (λi=>(yv a s i).c n*(if j=i then 1 else 0)) s+Sg (λi=>if n=0 then 0 else (yv a s i).c (n-1)*(0-a i j)) s:=by
  rw[Sg_add];exact Sg_congr λi _=>Zg0 _ _ _ _
 rw[e,Sg_one,if_pos hj];have u:(unz a s j).c n=if n=1 then 0-a s j else 0:=by
  show (if n=0 then (if j=s then (1:α) else 0) else if n=1 then 0-a s j else 0)=_;rw[if_neg (show ¬j=s by omega)]
  by_cases h:n=0
  ·rw[if_pos h,if_neg ⋯]
  ·rw[if_neg h]
 rw[u]
 match n with
 |0 =>
  rw[if_neg ⋯];have e2:Sg (λi=>if (0:Nat)=0 then (0:α) else (yv a s i).c (0-1)*(0-a i j)) s=Sg (λ_=>(0:α)) s:=Sg_congr λi _=>if_pos rfl;rw[e2,Sg_zero];show (0:α)+(0+0)=0;grind
 |1 =>
  rw[if_pos rfl];have e2:Sg (λi=>if (1:Nat)=0 then (0:α) else (yv a s i).c (1-1)*(0-a i j)) s=Sg (λ_=>(0:α)) s:=Sg_congr λi _=>by
   rw[if_neg ⋯];show (0:α)*(0-a i j)=0;grind
  rw[e2,Sg_zero];show 0-a s j+(a s j+0)=0;grind
 |t+2 =>
  rw[if_neg ⋯];have e2:Sg (λi=>if t+2=0 then (0:α) else (yv a s i).c (t+2-1)*(0-a i j)) s=0-Sg (λi=>wv a s t i*a i j) s:=by
   rw[ZnL];refine Sg_congr λi _=>?_;rw[if_neg ⋯];show wv a s t i*(0-a i j)=_;grind
  rw[e2];show 0+(Sg (λi=>wv a s t i*a i j) s+_)=0;grind
theorem ZiB(a:Nat->Nat->α)(s:Nat):unz a s s+Sg (λi=>yv a s i*unz a i s) s=cn a s:=Ps.ext λn=>by
 rw[Ps.c_add,Ps.c_Sg];have e:Sg (λi=>(yv a s i*unz a i s).c n) s=Sg (λi=>if n=0 then 0 else (yv a s i).c (n-1)*(0-a i s)) s:=Sg_congr λi hi=>by
  show (yv a s i*lin (if s=i then 1 else 0) (0-a i s)).c n=_;rw[Zg0,if_neg (show ¬s=i by omega)];grind
 rw[e];have u:(unz a s s).c n=if n=0 then 1 else if n=1 then 0-a s s else 0:=by
  show (if n=0 then (if s=s then (1:α) else 0) else if n=1 then 0-a s s else 0)=_;rw[if_pos rfl]
 rw[u]
 match n with
 |0 =>
  rw[if_pos rfl];have e2:Sg (λi=>if (0:Nat)=0 then (0:α) else (yv a s i).c (0-1)*(0-a i s)) s=Sg (λ_=>(0:α)) s:=Sg_congr λi _=>if_pos rfl;rw[e2,Sg_zero];show (1:α)+0=1;grind
 |1 =>
  rw[if_neg ⋯,if_pos rfl];have e2:Sg (λi=>if (1:Nat)=0 then (0:α) else (yv a s i).c (1-1)*(0-a i s)) s=Sg (λ_=>(0:α)) s:=Sg_congr λi _=>by
   rw[if_neg ⋯];show (0:α)*(0-a i s)=0;grind
  rw[e2,Sg_zero];show 0-a s s+0=0-a s s;grind
 |t+2 =>
  rw[if_neg ⋯,if_neg ⋯];show 0+_=0-Sg (λi=>wv a s t i*a i s) s;rw[ZnL];have e2:Sg (λi=>if t+2=0 then (0:α) else (yv a s i).c (t+2-1)*(0-a i s)) s=Sg (λi=>0-wv a s t i*a i s) s:=Sg_congr λi _=>by
   rw[if_neg ⋯];show wv a s t i*(0-a i s)=_;grind
  rw[e2];grind
theorem Zlw(a:Nat->Nat->α)(r:Nat)(f g:Nat->α):Zbn (Zbn a r f) r g=Zbn a r g:=by
 funext i j
 unfold Zbn
 split
 ·rfl
 ·rfl
theorem Zjn{s:Nat}(E:Nat->Nat->α)(y:Nat->α):∀k,k<=s->det (s+1) (Zbn E s λj=>E s j+Sg (λi=>y i*E i j) k)=det (s+1) E
 |0,_=>by
  have e:(λj=>E s j+Sg (λi=>y i*E i j) 0)=E s:=by funext j;show E s j+0=_;grind
  rw[e,Zcu]
 |k+1,hk=>by
  rw[<-Zjn E y k ⋯];have h:=ZmQ (n:=s+1) (a:=Zbn E s λj=>E s j+Sg (λi=>y i*E i j) k) (r:=s) (s:=k) (y k) ⋯ ⋯ ⋯;rw[Zlw] at h;rw[<-h]
  congr 1
  congr 1
  funext j
  unfold Zbn;rw[if_pos rfl,if_neg (show ¬k=s by omega)];show E s j+(Sg (λi=>y i*E i j) k+y k*E k j)=_;grind
def qz(n:Nat)(a:Nat->Nat->α):Ps α:=det n (unz a)
theorem qz_step(a:Nat->Nat->α)(s:Nat):qz (s+1) a=cn a s*qz s a:=by
  show det (s+1) (unz a)=_;rw[<-Zjn (unz a) (yv a s) s (Q3 s),ZfF]
  · have e1:Zbn (unz a) s (λj=>unz a s j+Sg (λi=>yv a s i*unz a i j) s) s s=cn a s:=by
      unfold Zbn;rw[if_pos rfl];exact ZiB a s
    rw[e1]
    congr 1
    exact Zba λi j hi _=>by unfold Zbn; rw[if_neg ⋯]
  · intro j hj
    unfold Zbn;rw[if_pos rfl];exact Zj6 a hj
theorem ZiC:∀j,sgn (Ps α) j=Ps.con (sgn α j)
 |0=>rfl
 |j+1=>Ps.ext λn=>by
  show (0-sgn (Ps α) j).c n=(if n=0 then 0-sgn α j else 0);rw[Ps.c_sub,ZiC j,Ps.c_zero];show 0-(if n=0 then sgn α j else 0)=_
  split <;> grind
theorem term_c(j:Nat)(x y:α)(D:Ps α)(n:Nat):(sgn (Ps α) j*lin x y*D).c n=sgn α j*(x*D.c n+(if n=0 then 0 else y*D.c (n-1))):=by
 have e:sgn (Ps α) j*lin x y*D=sgn (Ps α) j*(D*lin x y):=by generalize lin x y=L;grind
 rw[e,ZiC];show (Ps.mul (Ps.con (sgn α j)) (D*lin x y)).c n=_;rw[Ps.con_mul,Zg0]
 split <;> grind
theorem ZfG:∀(n:Nat) (A B:Nat->Nat->α),(∀m,n<m->(det n λi j=>lin (A i j) (B i j)).c m=0)/\(det n λi j=>lin (A i j) (B i j)).c n=det n B
 |0,A,B=>by
  refine ⟨λm hm=>?_,?_⟩
  ·show (1:Ps α).c m=0;rw[Ps.c_one,if_neg ⋯]
  ·show (1:Ps α).c 0=1;rw[Ps.c_one,if_pos rfl]
 |n+1,A,B=>by
  have ih:=λj=>ZfG n (λi k=>A (i+1) (skip j k)) (λi k=>B (i+1) (skip j k));have e:∀m,(det (n+1) λi j=>lin (A i j) (B i j)).c m=Sg (λj=>sgn α j*(A 0 j*(det n λi k=>lin (A (i+1) (skip j k)) (B (i+1) (skip j k))).c m+(if m=0 then 0 else B 0 j*(det n λi k=>lin (A (i+1) (skip j k)) (B (i+1) (skip j k))).c (m-1)))) (n+1):=λm=>by
   show (Sg (λj=>sgn (Ps α) j*lin (A 0 j) (B 0 j)*det n (λi k=>lin (A (i+1) (skip j k)) (B (i+1) (skip j k)))) (n+1)).c m=_;rw[Ps.c_Sg];exact Sg_congr λj _=>term_c _ _ _ _ _
  refine ⟨λm hm=>?_,?_⟩
  ·rw[e m];have z:∀j,j<n+1->sgn α j*(A 0 j*(det n λi k=>lin (A (i+1) (skip j k)) (B (i+1) (skip j k))).c m+(if m=0 then 0 else B 0 j*(det n λi k=>lin (A (i+1) (skip j k)) (B (i+1) (skip j k))).c (m-1)))=0:=λj _=>by
    rw[(ih j).1 m ⋯,if_neg ⋯,(ih j).1 (m-1) ⋯];grind
   rw[Sg_congr z,Sg_zero]
  ·rw[e (n+1)];show _=Sg (λj=>sgn α j*B 0 j*det n (λi k=>B (i+1) (skip j k))) (n+1);refine Sg_congr λj _=>?_;rw[(ih j).1 (n+1) ⋯,if_neg ⋯,show n+1-1=n by omega,(ih j).2];generalize (det n _:α)=D;grind
theorem qz_deg(n:Nat)(a:Nat->Nat->α){m:Nat}(h:n<m):(qz n a).c m=0:=(ZfG n _ _).1 m h
def cv(a:Nat->Nat->α)(s:Nat)(u:Nat->α):Nat->Nat->α
 |0,i=>u i
 |t+1,i=>Sg (λk=>a i k*cv a s u t k) s
theorem Zp5(a:Nat->Nat->α)(s:Nat):∀(t:Nat) (u:Nat->α) (i:Nat),cv a s (cv a s u 1) t i=cv a s u (t+1) i
 |0,u,i=>rfl
 |t+1,u,i=>by
  show Sg (λk=>a i k*cv a s (cv a s u 1) t k) s=Sg (λk=>a i k*cv a s u (t+1) k) s;exact Sg_congr λk _=>by rw[Zp5 a s t u k]
theorem wv_cv(a:Nat->Nat->α)(s:Nat):∀(t:Nat) (u:Nat->α),Sg (λi=>wv a s t i*u i) s=Sg (λj=>a s j*cv a s u t j) s
 |0,u=>rfl
 |t+1,u=>by
  have e:Sg (λi=>wv a s (t+1) i*u i) s=Sg (λi=>Sg (λl=>wv a s t l*(a l i*u i)) s) s:=Sg_congr λi _=>by
   show Sg (λl=>wv a s t l*a l i) s*u i=_;have e1:Sg (λl=>wv a s t l*a l i) s*u i=u i*Sg (λl=>wv a s t l*a l i) s:=by grind
   rw[e1,Sg_mul];exact Sg_congr λl _=>by grind
  rw[e,Sg_comm];have e2:Sg (λj=>Sg (λi=>wv a s t j*(a j i*u i)) s) s=Sg (λl=>wv a s t l*cv a s u 1 l) s:=Sg_congr λl _=>by
   rw[<-Sg_mul];rfl
  rw[e2,wv_cv a s t (cv a s u 1)];exact Sg_congr λj _=>by rw[Zp5]
end
end My.Rg
namespace My
open PySem L2 PyProof.Rows
section
variable{κ:KX}
theorem Zey(f g:ZZlk κ):∀k,Zf1 f g k=Rg.Sg (λi=>f.getD i 0*g.getD i 0) k
 |0=>rfl
 |k+1=>by show Zf1 f g k+_=Rg.Sg _ k+_;rw[Zey f g k]
noncomputable def coL(f:Rg.Ps κ.F)(n:Nat):ZZlk κ:=(List.range n).map f.c
theorem ZaQ(f:Rg.Ps κ.F)(n:Nat):(coL f n).length=n:=by unfold coL;rw[Q2,Qs]
theorem Zd7(f:Rg.Ps κ.F){n i:Nat}(h:i<n):(coL f n).getD i 0=f.c i:=by
 unfold coL;rw[Q1,Qb,Wf h]
 rfl
theorem Ze3{f:ZZlk κ}{i:Nat}(h:f.length<=i):f.getD i 0=0:=by
 rw[Q1,U3 h];rfl
theorem Zg1(f:Rg.Ps κ.F)(n:Nat):coL f (n+1)=coL f n++[f.c n]:=by
 unfold coL;rw[Uo,Qn]
 rfl
theorem Zlx{f:Rg.Ps κ.F}{n:Nat}{x:κ.F}(h:x∈coL f n):∃i,i<n/\x=f.c i:=by
 obtain ⟨i,hi,rfl⟩:=W4.mp h;exact ⟨i,U9.mp hi,rfl⟩
noncomputable def pN(f g:ZZlk κ)(place:Nat):κ.F:=Rg.Sg (λi=>f.getD i 0*g.getD (place-i) 0) (place+1)
theorem ZnM(h:Nat->κ.F)(lo:Nat)(z:∀i,i<lo->h i=0):∀k,Rg.Sg h (lo+k)=Rg.Sg (λi=>h (lo+i)) k
 |0=>by
  show Rg.Sg h lo=0;rw[Rg.Sg_congr z,Rg.Sg_zero]
 |k+1=>by
  show Rg.Sg h (lo+k)+h (lo+k)=_+h (lo+k);rw[ZnM h lo z k]
theorem Zp6{a:Nat->Nat->κ.F}{s place:Nat}(h:place<s+2):pN (coL (Rg.cn a s) (s+2)) (coL (Rg.qz s a) (s+1)) place=(Rg.qz (s+1) a).c place:=by
 rw[Rg.qz_step,Rg.Ps.c_mul];unfold pN;refine Rg.Sg_congr λi hi=>?_;rw[Zd7 _ ⋯]
 by_cases q:place-i<s+1
 ·rw[Zd7 _ q]
 ·rw[Ze3 (by rw[ZaQ];omega),Rg.qz_deg s a (show s<place-i by omega)]
abbrev EE:Nat:=2^200
abbrev GG:Nat:=7*2^200
theorem ZmR{h:Nat->κ.F}{M:Nat}:∀k,(∀i,i<k->QN κ 1 M (h i))->QN κ 1 (k*M) (Rg.Sg h k)
 |0,_=>QN.zero
 |k+1,e=>by
  rw[Nat.succ_mul];exact QN.add ∅ (ZmR k λi hi=>e i ⋯) (e k ⋯)
theorem QN.mul1{M N:Nat}{x y:κ.F}(h:QN κ 1 M x)(g:QN κ 1 N y):QN κ 1 (M*N) (x*y):=h.mul g
theorem QN.neg1{M:Nat}{x:κ.F}(h:QN κ 1 M x):QN κ 1 M (0-x):=by
 cases κ with
 |r p hp=>exact trivial
 |q =>
  obtain ⟨X,rfl,l⟩:=h;refine ⟨-X,?_,by rw[Int.natAbs_neg];exact l⟩;show (0:Rat)-Rat.divInt X 1=Rat.divInt (-X) 1;rw[<-Rat.neg_divInt];generalize Rat.divInt X 1=z;grind
theorem qn1:QN κ 1 1 (1:κ.F):=by
 cases κ with
 |r p hp=>exact trivial
 |q=>exact ⟨1,by show (1:Rat)=Rat.divInt 1 1;decide +kernel,∅⟩
theorem Zdw{D:Int}{M:Nat}{A:ZZll κ}(h:AllR (QN κ D M) A)(i j:Nat):QN κ D M (ent A i j):=by
 unfold ent
 by_cases q:j<(A.getD i []).length
 ·refine h.getD i _ ?_;rw[Q1 (l:=A.getD i []),Q4 q];exact Ql _
 ·rw[Ze3 ⋯];exact QN.zero
theorem ZmS{a:Nat->Nat->κ.F}{s:Nat}(h:∀i j,QN κ 1 EE (a i j))(hs:s<=7):∀t i,QN κ 1 (GG^t*EE) (Rg.cv a s (λi=>a i s) t i)
 |0,i=>(h i s).mono (by rw[Nat.pow_zero,Wv];exact Q3 _)
 |t+1,i=>by
  refine QN.mono (ZmR (M:=EE*(GG^t*EE)) s λk _=>(h i k).mul1 (ZmS h hs t k)) ?_;rw[Qq,Qz (GG^t) GG EE,show GG*EE=7*(EE*EE) by rw[show GG=7*EE from rfl,Qz],<-Qz EE (GG^t) EE,Wi EE (GG^t),Qz (GG^t) EE EE,Nat.mul_left_comm (GG^t) 7];exact Qp _ hs
theorem ZnN{a:Nat->Nat->κ.F}{s:Nat}(h:∀i j,QN κ 1 EE (a i j))(hs:s<=7)(t:Nat):QN κ 1 (GG^(t+2)) (Rg.Sg (λj=>a s j*Rg.cv a s (λi=>a i s) t j) s):=by
 refine QN.mono (ZmR (M:=EE*(GG^t*EE)) s λk _=>(h s k).mul1 (ZmS h hs t k)) ?_;have e:GG^(t+2)=49*(EE*(GG^t*EE)):=by
  rw[show t+2=t+1+1 from rfl,Qq,Qq,Qz,show GG*GG=49*(EE*EE) by rw[show GG=7*EE from rfl,Nat.mul_mul_mul_comm],<-Qz EE (GG^t) EE,Wi EE (GG^t),Qz (GG^t) EE EE,Nat.mul_left_comm (GG^t) 49]
 rw[e];exact Qp _ ⋯
theorem ZnO(a:Nat->Nat->κ.F)(s t:Nat):(Rg.cn a s).c (t+2)=0-Rg.Sg (λj=>a s j*Rg.cv a s (λi=>a i s) t j) s:=by
 show 0-Rg.Sg (λi=>Rg.wv a s t i*a i s) s=_;rw[Rg.wv_cv a s t (λi=>a i s)]
theorem Zp7{a:Nat->Nat->κ.F}{s:Nat}(h:∀i j,QN κ 1 EE (a i j))(hs:s<=7):∀i,QN κ 1 (GG^i) ((Rg.cn a s).c i)
 |0=>qn1
 |1=>(h s s).neg1.mono (by rw[U7];show EE<=7*EE;omega)
 |t+2=>by
  rw[ZnO];exact (ZnN h hs t).neg1
theorem ZoJ{a:Nat->Nat->κ.F}(h:∀i j,QN κ 1 EE (a i j)):∀s,s<=7->∀i,QN κ 1 (8^s*GG^i) ((Rg.qz s a).c i)
 |0,_,i=>by
  show QN κ 1 _ ((1:Rg.Ps κ.F).c i);rw[Rg.Ps.c_one]
  by_cases q:i=0
  ·rw[if_pos q,q];exact qn1
  ·rw[if_neg q];exact QN.zero
 |s+1,hs,i=>by
  by_cases q:i<=s+1
  ·rw[Rg.qz_step,Rg.Ps.c_mul];refine QN.mono (ZmR (M:=8^s*GG^i) (i+1) λk hk=>?_) ?_
   ·refine QN.mono ((Zp7 h ⋯ k).mul1 (ZoJ h s ⋯ (i-k))) ?_;rw[Nat.mul_left_comm,<-Wp,show k+(i-k)=i by omega];exact Q3 _
   ·rw[Qq,Wi (8^s) 8,Qz];exact Qp _ ⋯
  ·rw[Rg.qz_deg (s+1) a ⋯];exact QN.zero
theorem gg5{i:Nat}(hi:i<=7):GG^i<=10^500:=Q0 (Q7 ∅ hi) ∅
theorem gg4{i:Nat}(hi:i<=6):GG^i*EE<=10^500:=Q0 (Qp _ (Q7 ∅ hi)) ∅
theorem qz5{s i:Nat}(hs:s<=7)(hi:i<=7):8^s*GG^i<=10^500:=Q0 (Qm (Q7 ∅ hs) (Q7 ∅ hi)) ∅
theorem ZhP{M:Nat}{x:κ.F}(h:QN κ 1 M x)(l:M<=10^500):B1 κ x:=h.b1 ∅ (Q8 (show 1<2^1 by decide) (Q7 ∅ ∅)) (Q5 l (Q8 (show 10^500<2^2000 by decide) (Q7 ∅ ∅)))
end
inductive ZbI (CF CR:Addr) (vs:List V) (H:Hp) (Q:VK) (zE:XK):Prop
 |mk (κ:KX) (s fa ga:Addr) (xs ys:List V) (f g:ZZlk κ) (place M N:Nat) (_:vs=[.ref s,.ref fa,.ref ga,.int (place:Int)]) (_:KdX CF CR κ H s) (_:H fa=some (.lst xs)) (_:AllG (NR κ H) xs f) (_:H ga=some (.lst ys)) (_:AllG (NR κ H) ys g) (_:place+1<=f.length) (_:f.length<=90) (_:g.length<=90) (_:(∀x∈f,QN κ 1 M x)) (_:(∀x∈g,QN κ 1 N x)) (_:M<=10^500) (_:N<=10^500) (_:∀H' v,Same H H'->NR κ H' v (pN f g place)->Q v H'):ZbI CF CR vs H Q zE
inductive ZcQ (vs:List V) (H:Hp) (Q:VK) (zE:XK):Prop
 |mk (κ:KX) (a:Addr) (rs:ZZla) (R:ZZll κ) (m j:Nat) (_:vs=[.ref a,.int (j:Int)]) (_:H a=some (.lst (rs.map V.ref))) (_:RowsX κ H rs R) (_:Wid m R) (_:R.length<=100) (_:j<m) (_:∀(H':Hp) (D:Addr) (ys:List V),Same H H'->H D=none->H' D=some (.lst ys)->AllG (NR κ H') ys (R.map λr=>r.getD j 0)->Q (.ref D) H'):ZcQ vs H Q zE
inductive ZfH (CF CR:Addr) (vs:List V) (H:Hp) (Q:VK) (zE:XK):Prop
 |mk (κ:KX) (s tb:Addr) (rs:ZZla) (A:ZZll κ) (n size:Nat) (_:vs=[.ref s,.ref tb,.int (size:Int)]) (_:KdX CF CR κ H s) (_:H tb=some (.lst (rs.map V.ref))) (_:RowsX κ H rs A) (_:A.length=n) (_:Wid n A) (_:n<=7) (_:size<n) (_:AllR (QN κ 1 EE) A) (_:∀(H':Hp) (D:Addr) (ys:List V),Same H H'->H' D=some (.lst ys)->AllG (NR κ H') ys (coL (Rg.cn (ent A) size) (size+2))->Q (.ref D) H'):ZfH CF CR vs H Q zE
inductive Zez (CF CR:Addr) (vs:List V) (H:Hp) (Q:VK) (zE:XK):Prop
 |mk (κ:KX) (s tb:Addr) (rs:ZZla) (A:ZZll κ) (n:Nat) (_:vs=[.ref s,.ref tb]) (_:KdX CF CR κ H s) (_:H tb=some (.lst (rs.map V.ref))) (_:RowsX κ H rs A) (_:A.length=n) (_:Wid n A) (_:n<=7) (_:AllR (QN κ 1 EE) A) (_:∀(H':Hp) (D:Addr) (ys:List V),Same H H'->H' D=some (.lst ys)->AllG (NR κ H') ys (coL (Rg.qz n (ent A)) (n+1))->Q (.ref D) H'):Zez CF CR vs H Q zE
theorem Zjo(xs:List V){a b:Nat}(hab:a<=b)(hb:b<=xs.length):ZeL xs (some (a:Int)) (some (b:Int))=(xs.drop a).take (b-a):=by
 unfold ZeL;rw[HT.sIx_nat,HT.sIx_nat,Nat.min_eq_left (show a<=xs.length by omega),Nat.min_eq_left hb]
theorem ZhQ{κ:KX}{H:Hp}{xs:List V}{f:ZZlk κ}(al:AllG (NR κ H) xs f){a k:Nat}:AllG (NR κ H) ((xs.drop a).take k) ((f.drop a).take k):=Zbv (al.drop a) k
section
variable{P:Program}{w:World}{K:ZZfg}{mg:ZZmg}{base:Heap}{CF CR cN cF:Addr}
theorem sc_product_number:FnScope ["kind","some","others","place","start","bound"] ["kind","some","others","place"] (Zah Zbl):=‹2›
theorem ZeA(h:Here K mg "product_number" Zbl) (T:Nm mg) (Tmax:mg "max"=none) (Tmin:mg "min"=none) (md:ZfD P w K mg base CF CR):Has P w K mg base "product_number" 4 ["kind","some","others","place"] (ZbI CF CR):=by
 refine h.has (λ_ _ F=>F.b4 λ_ _ _ _ _ _ _ _ _ _=>rfl) λf fd F=>F.ok sc_product_number (λvs H Q E h=>?_) (λcdv A outer s H vs Q E hr h=>?_)
 ·obtain ⟨_,_,_,_,_,_,_,_,_,_,_,rfl,_⟩:=h
  rfl
 obtain ⟨κ,sk,fa,ga,xs,ys,f,g,pl,M,N,rfl,hk,hF,aF,hG,aG,lp,l9,g9,qf,qg,hM,hN,k⟩:=h;have nd:=sc_product_number.nd;refine ⟨_,(Zac (Zak (i:=4) nd rfl (Or.inl rfl) (Zaj (Zhj rfl) (by rfl) Tmax PyProof.Rows.Boot.max (Zaa Zad (Zaa (Zan ZaM (Zan Zbe (pv 3) (Zaj Zai (by rfl) T.len boot_len (Zaa (pv 2) Zab))) Zad) Zab))))
  (Zac (Zak (i:=5) nd rfl (Or.inl rfl) (Zaj (Zhk rfl) (by rfl) Tmin PyProof.Rows.Boot.min (Zaa (Zan ZaM (pv 3) Zad) (Zaa (Zaj Zai (by rfl) T.len boot_len (Zaa (pv 1) Zab)) Zab))))
  (Zae (Zal (Zaz (pv 0) hr (Zaa (ZaS Zbg (pv 1) (Za5 (pv 4)) (Za5 (pv 5))) (Zaa (ZaU ["each"] [(2,"others"),(3,"place")] rfl (Ze8 (by rfl) T.range (Zaa (pv 4) (Zaa (pv 5) Zab))) (by exact λ_ _ _ _=>(Zaq (i:=0) (show (["each","others","place"]:List Str).Nodup by decide +kernel) rfl (Or.inl rfl))) (by exact λ_ _ _ _=>(Zao (Zdn K rfl) (pv 1) (Zan Zbe (pv 2) (pv 0)) (λ_ _=>rfl))) ⟨⟨rfl,rfl,Or.inl rfl⟩,⟨⟨rfl,rfl,Or.inl rfl⟩,trivial⟩⟩) Zab))))))),?_⟩
 have lx:=aF.1;have ly:=aG.1;refine ⟨_,rfl,_,rfl,ga,_,rfl,.inl (SqL.of hG),_,_,rfl,rfl,_,_,rfl,rfl,_,_,rfl,?_⟩;obtain ⟨st,est,hst,hst2⟩:∃st:Nat,(if (pl:Int)-(ys.length:Int)+1>0 then (pl:Int)-(ys.length:Int)+1 else 0)=(st:Int)/\st<=pl+1/\(st=pl+1-g.length):=by
  refine ⟨pl+1-g.length,?_,⋯,rfl⟩
  split <;> omega
 show Zdz 4 (V.int (if (pl:Int)-(ys.length:Int)+1>0 then (pl:Int)-(ys.length:Int)+1 else 0)) _ H _;rw[est];refine ⟨_,rfl,_,_,rfl,rfl,_,rfl,fa,_,rfl,.inl (SqL.of hF),_,_,rfl,?_⟩;have eb:(if (xs.length:Int)<(pl:Int)+1 then (xs.length:Int) else (pl:Int)+1)=((pl+1:Nat):Int):=by split <;> omega
 show Zdz 5 (V.int (if (xs.length:Int)<(pl:Int)+1 then (xs.length:Int) else (pl:Int)+1)) _ H _;rw[eb];obtain ⟨Cd,dxd,fsd,psd,dvd,spd,k1,k2,k3,k4,rfl,k5⟩:=md κ H sk hk;refine ⟨_,rfl,sk,Cd,dxd,fsd,psd,_,spd,rfl,k1,k2,k3.mono ∅,k4,_,rfl,_,rfl,_,rfl,_,rfl,_,rfl,fa,xs,rfl,SqL.of hF,λsl nsl=>?_⟩;rw[Zjo xs hst ⋯];have Ss:=Zag nsl (.lst ((xs.drop st).take (pl+1-st)));have qs:=Zaf (H:=H) (a:=sl) (o:=.lst ((xs.drop st).take (pl+1-st)));generalize upd H sl (.lst ((xs.drop st).take (pl+1-st)))=H1 at *;refine ⟨_,rfl,_,rfl,_,_,rfl,⟨⋯,⋯,⋯,⋯⟩,?_⟩;have en:((((pl+1:Nat):Int))-(st:Int)).toNat=pl+1-st:=⋯;rw[en];refine Zbc (lo:=(st:Int)) (n:=pl+1-st) (λq zs H2=>H2=H1/\AllG (NR κ H1) zs ((List.range q).map λi=>g.getD (pl-(st+i)) 0)) ⋯ ⟨rfl,.nil⟩ ?_ ?_
 ·rintro q zs H2 hq _ ⟨rfl,e⟩;obtain ⟨v,hv,nv⟩:=Za1 aG (i:=pl-(st+q)) ⋯;refine ⟨_,rfl,_,rfl,_,rfl,_,_,rfl,rfl,ga,_,_,v,rfl,rfl,SqL.of (Ss _ _ hG),?_,rfl,?_⟩
  ·rw[show (pl:Int)-((st:Int)+(q:Int))=((pl-(st+q):Nat):Int) by omega];exact ZaK hv
  ·rw[Uo,Qn];exact e.append (.one (nv.same Ss))
 rintro zs H2 _ ⟨rfl,e⟩ lz nlz;have Sz:=Zag nlz (.lst zs);have qz:=Zaf (H:=H2) (a:=lz) (o:=.lst zs);generalize upd H2 lz (.lst zs)=H3 at *;have S03:=Ss.trans Sz;have lsl:((f.drop st).take (pl+1-st)).length=pl+1-st:=by rw[Qa,W7];omega
 refine k5 H3 sl lz _ zs ((f.drop st).take (pl+1-st)) ((List.range (pl+1-st)).map λi=>g.getD (pl-(st+i)) 0) 1 1 M N _ S03 (Sz _ _ qs) qz (ZhQ (aF.mono λ_ _ n=>n.same S03)) (e.mono λ_ _ n=>n.same Sz) (by rw[lsl,Q2,Qs]) ⋯ (λx hx=>qf x (List.mem_of_mem_drop (U4 hx))) (λx hx=>?_) ∅ ∅ ∅ ∅ hM hN λH4 v S4 nv=>?_
 ·obtain ⟨i,hi,rfl⟩:=W4.mp hx
  by_cases q:pl-(st+i)<g.length
  ·refine qg _ ?_;rw[Q1,Q4 q];exact Ql _
  ·rw[Ze3 ⋯];exact QN.zero
 ·refine k H4 v (S03.trans S4) ?_;have ev:ZfC ((f.drop st).take (pl+1-st)) ((List.range (pl+1-st)).map λi=>g.getD (pl-(st+i)) 0)=pN f g pl:=by
   unfold ZfC pN;rw[lsl,Zey,show pl+1=st+(pl+1-st) by omega,ZnM (λi=>f.getD i 0*g.getD (pl-i) 0) st (λi hi=>by rw[Ze3 (f:=g) ⋯];grind),show st+(pl+1-st)-st=pl+1-st by omega];refine Rg.Sg_congr λi hi=>?_;have e1:((f.drop st).take (pl+1-st)).getD i 0=f.getD (st+i) 0:=by
    rw[Q1,We,if_pos hi,Uw,<-Q1]
   have e2:((List.range (pl+1-st)).map λi=>g.getD (pl-(st+i)) 0).getD i 0=g.getD (pl-(st+i)) 0:=by
    rw[Q1,Qb,Wf hi];rfl
   rw[e1,e2]
  rw[<-ev];exact nv
theorem ZhR:FnScope ["table","place"] ["table","place"] (Zah ZdC):=‹2›
theorem ZiD(h:Here K mg "column_at" ZdC):Has P w K mg base "column_at" 1 ["table","place"] ZcQ:=by
 refine h.has (λ_ _ F=>F.b2 λ_ _ _ _ _ _ _ _=>rfl) λf fd F=>F.ok ZhR (λvs H Q E h=>?_) (λcdv A outer s H vs Q E hr h=>?_)
 ·obtain ⟨_,_,_,_,_,_,rfl,_⟩:=h
  rfl
 obtain ⟨κ,a,rs,R,m,j,rfl,hA,rx,wd,n9,jm,k⟩:=h;refine ⟨_,(Zae (Zal (ZaU ["row"] [(1,"place")] rfl (ZaD (pv 0)) (by exact λ_ _ _ _=>(Zaq (i:=0) (show (["row","place"]:List Str).Nodup by decide +kernel) rfl (Or.inl rfl))) (by exact λ_ _ _ _=>(Zao (Zdn K rfl) (pv 0) (pv 1) (λ_ _=>rfl))) ⟨⟨rfl,rfl,Or.inl rfl⟩,trivial⟩))),?_⟩;have lr:=rx.1;refine ⟨_,rfl,a,rfl,⟨_,SqL.of hA⟩,?_⟩;refine ZaG (K:=K) (a:=a) (xs:=rs.map V.ref) (λi ys H2=>H2=H/\AllG (NR κ H) ys ((R.take i).map λr=>r.getD j 0)) (by rw[Q2];omega) ⟨rfl,.nil⟩ (λi ys H2 _ q=>by rw[q.1];exact SqL.of hA) ?_ ?_
 ·rintro i x ys H2 hx hl ⟨rfl,e⟩;obtain ⟨b,hb,rfl⟩:=ZaA hx;obtain ⟨f,hf⟩:=ZaV hb lr;obtain ⟨zs,hz,al⟩:=rx.2 i b f hb hf;obtain ⟨v,hv,nv⟩:=Za1 al (i:=j) (by rw[wd f (Qc hf)];exact jm);refine ⟨_,rfl,_,rfl,b,_,_,v,rfl,rfl,SqL.of hz,ZaK hv,rfl,?_⟩;rw[W5,hf,Qn];exact e.append (.one nv)
 ·rintro ys H2 hl ⟨rfl,e⟩ D nD;rw[Q2,lr,Wy] at e;have SD:=Zag nD (.lst ys);exact k _ D ys SD nD Zaf (e.mono λ_ _ n=>n.same SD)
end
end My
namespace L2
open PySem PySem.Spec PyProof.Rows
section
variable{X:Cx}
theorem ZmT(K:ZZfg)(h:X.K=K):SlR X (ZqW K):=by subst h;exact Zbg
end
end L2
namespace My
open PySem L2 PyProof.Rows
theorem Zjp{κ:KX}{A:ZZll κ}{s:Nat}(h:s<=A.length):A.take s=(List.range s).map λi=>A.getD i []:=by
 apply List.ext_getElem?
 intro i;rw[We,Qb]
 by_cases q:i<s
 ·rw[if_pos q,Wf q];show A[i]?=some (A.getD i []);rw[Q1,Q4 ⋯]
  rfl
 ·rw[if_neg q,U3 (by rw[Qs];omega)]
  rfl
noncomputable def cvL{κ:KX}(a:Nat->Nat->κ.F)(s t:Nat):ZZlk κ:=(List.range s).map (Rg.cv a s (λi=>a i s) t)
theorem ZiE{κ:KX}(a:Nat->Nat->κ.F)(s t:Nat):(cvL a s t).length=s:=by unfold cvL;rw[Q2,Qs]
theorem Zly{κ:KX}{A:ZZll κ}{n s t i:Nat}(wd:Wid n A)(hs:s<=n)(hi:i<A.length):ZfC ((A.getD i []).take s) (cvL (ent A) s t)=Rg.Sg (λj=>ent A i j*Rg.cv (ent A) s (λi=>ent A i s) t j) s:=by
 have w:=wd.get hi;have l:((A.getD i []).take s).length=s:=by rw[Qa];omega
 unfold ZfC;rw[l,Zey];refine Rg.Sg_congr λj hj=>?_;have e1:((A.getD i []).take s).getD j 0=ent A i j:=by
  unfold ent;rw[Q1,We,if_pos hj,<-Q1]
 have e2:(cvL (ent A) s t).getD j 0=Rg.cv (ent A) s (λi=>ent A i s) t j:=by
  unfold cvL;rw[Q1,Qb,Wf hj]
  rfl
 rw[e1,e2]
theorem ZoK{κ:KX}{A:ZZll κ}{n s t:Nat}(wd:Wid n A)(hs:s<=n)(hn:A.length=n):((A.take s).map (List.take s)).map (λr=>ZfC r (cvL (ent A) s t))=cvL (ent A) s (t+1):=by
 rw[Zjp ⋯,List.map_map,List.map_map];unfold cvL;refine List.map_congr_left λi hi=>?_;have hi:=U9.mp hi;exact Zly wd hs ⋯
theorem Zp8{κ:KX}{A:ZZll κ}{n s:Nat}(hs:s<=n)(hn:A.length=n):(A.take s).map (λr=>r.getD s 0)=cvL (ent A) s 0:=by
 rw[Zjp ⋯,List.map_map]
 rfl
section
variable{P:Program}{w:World}{K:ZZfg}{mg:ZZmg}{base:Heap}{CF CR cN cF:Addr}
theorem sc_corner_numbers:FnScope ["kind","table","size","row","inner","column","falling","turn"] ["kind","table","size"] (Zah ZbR):=‹2›
theorem ZeB(h:Here K mg "corner_numbers" ZbR) (T:Nm mg) (mn:ZcL P w K mg base CF CR) (mm:ZmB P w K mg base CF CR) (md:ZfD P w K mg base CF CR) (h_column_at:Has P w K mg base "column_at" 4 ["table","place"] ZcQ) (h_sums_with:Has P w K mg base "sums_with" 4 ["kind","table","column"] (Zd6 CF CR)):Has P w K mg base "corner_numbers" 5 ["kind","table","size"] (ZfH CF CR):=by
 refine h.has (λ_ _ F=>F.b3 λ_ _ _ _ _ _ _ _ _=>rfl) λf fd F=>F.ok sc_corner_numbers (λvs H Q E h=>?_) (λcdv A outer s H vs Q E hr h=>?_)
 ·obtain ⟨_,_,_,_,_,_,_,rfl,_⟩:=h
  rfl
 obtain ⟨κ,sk,tb,rs,A,n,sz,rfl,hk,hT,rx,lA,wd,n5,hs,qA,k⟩:=h;have nd:=sc_corner_numbers.nd;refine ⟨_,(Zac (Zak (i:=3) nd rfl (Or.inl rfl) (ZaS Zbg (Zao Zap (pv 1) (pv 2) (λ_ _=>rfl)) Zbr (Za5 (pv 2))))
  (Zac (Zbz (i:=4) ["each"] [(2,"size")] nd rfl rfl rfl (ZaD (ZaS Zbg (pv 1) Zbr (Za5 (pv 2)))) (by exact λ_ _ _ _=>(Zaq (i:=0) (show (["each","size"]:List Str).Nodup by decide +kernel) rfl (Or.inl rfl))) (by exact λ_ _ _ _=>(ZaS (ZmT K rfl) (pv 0) Zbr (Za5 (pv 1)))) ⟨⟨rfl,rfl,Or.inl rfl⟩,trivial⟩)
  (Zac (Zak (i:=5) nd rfl (Or.inl rfl) (Zam h_column_at hr (by rfl) (Zaa (ZaS Zbg (pv 1) Zbr (Za5 (pv 2))) (Zaa (pv 2) Zab))))
  (Zac (Zak (i:=6) nd rfl (Or.inl rfl) (ZaN (Zaa (ZaI (pv 0) Zcr hr (Zaa Zad Zab)) (Zaa (Zaz (pv 0) hr (Zaa (ZaI (pv 0) Zcr hr (Zaa Zad Zab)) (Zaa (Zao Zap (Zao Zap (pv 1) (pv 2) (λ_ _=>rfl)) (pv 2) (λ_ _=>rfl)) Zab))) Zab))))
  (Zac (Za2 PassesOwn.never rfl (ZaE (by rfl) T.range (Zaa (pv 2) Zab)) (Zaq (i:=7) nd rfl (Or.inl rfl)) (Zac (ZaT (ZeU PySem.F.plainAttrs_list PySem.F.slot_list_append PySem.F.type_list_append Za6 (pv 6) (Zaa (Zaz (pv 0) hr (Zaa (ZaI (pv 0) Zcr hr (Zaa Zad Zab)) (Zaa (Zaz (pv 0) hr (Zaa (pv 3) (Zaa (pv 5) Zab))) Zab))) Zab)))
   (Zae (Zak (i:=5) nd rfl (Or.inl rfl) (Zam h_sums_with hr (by rfl) (Zaa (pv 0) (Zaa (pv 4) (Zaa (pv 5) Zab))))))))
  (Zae (Zal (pv 6)))))))),?_⟩
 have lr:=rx.1;have qe:=λi j=>Zdw qA i j;obtain ⟨ra,xs,ga,hxs,al⟩:=rx.get (i:=sz) ⋯;have eR:A.getD sz []=A[sz]:=Zcc (Q4 ⋯);rw[<-eR] at al;have lrow:=wd.get (i:=sz) ⋯;have lxs:xs.length=n:=by rw[al.1];exact lrow
 refine ⟨_,rfl,_,rfl,tb,_,_,_,rfl,rfl,SqL.of hT,ZaR ga,_,rfl,_,rfl,ra,xs,rfl,SqL.of hxs,λrw_ nrw=>?_⟩;rw[show ZeL xs none (some (sz:Int))=xs.take sz from Zda xs sz];have Sr:=Zag nrw (.lst (xs.take sz));have qr:=Zaf (H:=H) (a:=rw_) (o:=.lst (xs.take sz));generalize upd H rw_ (.lst (xs.take sz))=H1 at *;refine ⟨_,rfl,_,rfl,_,rfl,tb,_,rfl,SqL.of (Sr _ _ hT),λsl nsl=>?_⟩;have ecut:ZeL (rs.map V.ref) none (some (sz:Int))=(rs.take sz).map V.ref:=by rw[List.map_take];exact Zda _ sz
 rw[ecut];have Ssl:=Zag nsl (.lst ((rs.take sz).map V.ref));have qsl:=Zaf (H:=H1) (a:=sl) (o:=.lst ((rs.take sz).map V.ref));generalize upd H1 sl (.lst ((rs.take sz).map V.ref))=H2 at *;have S02:=Sr.trans Ssl;have lrt:(rs.take sz).length=sz:=by rw[Qa];omega
 refine ⟨sl,rfl,⟨_,SqL.of qsl⟩,?_⟩;refine ZaG (K:=K) (a:=sl) (xs:=(rs.take sz).map V.ref) (λi ys H3=>∃cs:ZZla,ys=cs.map V.ref/\Same H2 H3/\RowsX κ H3 cs ((A.take i).map (List.take sz))) (by rw[Q2];omega) ⟨[],rfl,Same.refl _,by rw[Um];exact .nil⟩ (λi ys H3 _ ⟨as,_,S,_⟩=>SqL.of (S _ _ qsl)) ?_ ?_
 ·rintro i x ys H3 hx hl ⟨cs,rfl,S3,rc⟩;obtain ⟨b,hb,rfl⟩:=ZaA hx;have hi:i<sz:=by have:=(Qo.mp hb).1;omega
  rw[We,if_pos hi] at hb;obtain ⟨f,hf⟩:=ZaV hb lr;obtain ⟨zs,hz,alz⟩:=rx.2 i b f hb hf;refine ⟨_,rfl,_,rfl,_,rfl,b,zs,rfl,SqL.of (S3 _ _ (S02 _ _ hz)),λl nl=>?_⟩;rw[show ZeL zs none (some (sz:Int))=zs.take sz from Zda zs sz];have Sl:=Zag nl (.lst (zs.take sz));refine ⟨cs++[l],by rw[Qn];rfl,S3.trans Sl,?_⟩;rw[W5,hf,Qn];exact (rc.same Sl).snoc Zaf (Zbv (alz.mono λ_ _ n=>n.same (S02.trans (S3.trans Sl))) sz)
 rintro ys H3 hl ⟨is,rfl,S3,rc⟩ inr ninr;rw[Q2,lrt] at rc;have Si:=Zag ninr (.lst (is.map V.ref));have qi:=Zaf (H:=H3) (a:=inr) (o:=.lst (is.map V.ref));generalize upd H3 inr (.lst (is.map V.ref))=H4 at *;have S04:=S02.trans (S3.trans Si);have rI:=rc.same Si;refine ⟨_,rfl,_,rfl,_,rfl,tb,_,rfl,SqL.of (S04 _ _ hT),λs2 ns2=>?_⟩;rw[ecut];have S2:=Zag ns2 (.lst ((rs.take sz).map V.ref));have q2:=Zaf (H:=H4) (a:=s2) (o:=.lst ((rs.take sz).map V.ref));generalize upd H4 s2 (.lst ((rs.take sz).map V.ref))=H5 at *;have S05:=S04.trans S2;have rT:RowsX κ H5 (rs.take sz) (A.take sz):=by
  have r5:=rx.same S05;refine ⟨by rw[Qa,Qa,r5.1],λi a f ha hf=>?_⟩;rw[We] at ha hf
  by_cases q:i<sz
  ·rw[if_pos q] at ha hf;exact r5.2 i a f ha hf
  ·rw[if_neg q] at ha;cases ha
 refine ⟨_,rfl,κ,s2,rs.take sz,A.take sz,n,sz,rfl,q2,rT,(λf hf=>wd f (U4 hf)),by rw[Qa];omega,hs,λH6 col cs S6 ncol hcol acol=>?_⟩;rw[Zp8 ⋯ lA] at acol;have S06:=S05.trans S6;obtain ⟨C,dx,fs,ps,dvs,sp,c1,c2,c3,c4,rfl,c5⟩:=mn κ H6 sk (hk.same S06);refine ⟨_,rfl,sk,C,dx,fs,ps,_,sp,rfl,c1,c2,c3.mono ∅,c4,c5 H6 1 1 _ _ (Same.refl _) ZdL λv1 H7 S7 n1=>?_⟩;have S07:=S06.trans S7;obtain ⟨Cm,dxm,fsm,psm,dvm,spm,m1,m2,m3,m4,rfl,m5⟩:=mm κ H7 sk (hk.same S07);obtain ⟨C',dx',fs',ps',dvs',sp',d1,d2,d3,d4,rfl,d5⟩:=mn κ H7 sk (hk.same S07);obtain ⟨ve,hve,nve⟩:=Za1 al (i:=sz) ⋯;refine ⟨_,rfl,sk,Cm,dxm,fsm,psm,_,spm,rfl,m1,m2,m3.mono ∅,m4,_,rfl,sk,C',dx',fs',ps',_,sp',rfl,d1,d2,d3.mono ∅,d4,d5 H7 0 0 _ _ (Same.refl _) ZfW λv0 H8 S8 n0=>?_⟩;have S08:=S07.trans S8;refine ⟨_,rfl,_,rfl,tb,_,_,_,rfl,rfl,SqL.of (S08 _ _ hT),ZaR ga,_,rfl,ra,_,_,ve,rfl,rfl,SqL.of (S08 _ _ hxs),ZaK hve,?_⟩;refine m5 H8 v0 ve 0 _ _ S8 n0 (nve.same S08) (ZhP (M:=1) QN.zero ∅) (ZhP (qe sz sz) ∅) λv2 H9 S9 n2=>?_;refine ⟨(by show 2<=sizeLine;decide),λfl nfl=>?_⟩;have S69:=S7.trans (S8.trans S9);have S09:=S06.trans S69;have Sf:=Zag nfl (.lst [v1,v2]);have qf:=Zaf (H:=H9) (a:=fl) (o:=.lst [v1,v2]);have af:AllG (NR κ (upd H9 fl (.lst [v1,v2]))) [v1,v2] (coL (Rg.cn (ent A) sz) (0+2)):=by
  have a2:AllG (NR κ (upd H9 fl (.lst [v1,v2]))) ([v1]++[v2]) ([(1:κ.F)]++[0-ent A sz sz]):=(AllG.one (((n1.same S8).same S9).same Sf)).append (.one (n2.same Sf));exact a2
 generalize upd H9 fl (.lst [v1,v2])=Ha at *;refine ⟨_,rfl,(sz:Int),rfl,⋯,⋯,?_⟩;rw[Qu];have hR9:H9 rw_=some (.lst (xs.take sz)):=S69 _ _ (S6 _ _ (S2 _ _ (Si _ _ (S3 _ _ (Ssl _ _ qr)))));have hI9:H9 inr=some (.lst (is.map V.ref)):=S69 _ _ (S6 _ _ (S2 _ _ qi));have rI9:RowsX κ H9 is ((A.take sz).map (List.take sz)):=((rI.same S2).same S6).same S69;have aR9:AllG (NR κ H9) (xs.take sz) ((A.getD sz []).take sz):=Zbv (al.mono λ_ _ n=>n.same S09) sz;have ncf:col≠fl:=λz=>by rw[z] at hcol;rw[S69 _ _ hcol] at nfl;cases nfl
 refine Zbi (lo:=0) (n:=sz) (λt σ Hb=>∃(z7:Option V) (col:Addr) (cs ys:List V),σ=[some (.ref sk),some (.ref tb),some (.int (sz:Int)),some (.ref rw_),some (.ref inr),some (.ref col),some (.ref fl),z7]/\Same H9 Hb/\Hb fl=some (.lst ys)/\AllG (NR κ Hb) ys (coL (Rg.cn (ent A) sz) (t+2))/\Hb col=some (.lst cs)/\AllG (NR κ Hb) cs (cvL (ent A) sz t)/\col≠fl) ⟨_,col,cs,_,rfl,Sf,qf,af,Sf _ _ (S69 _ _ hcol),acol.mono (λ_ _ n=>(n.same S69).same Sf),ncf⟩ ?_ ?_
 ·rintro t σ Hb ht ⟨z7,col,cs,ys,rfl,Sb,hfl,afl,hcl,acl,ne⟩;have S0b:=S09.trans Sb;have lfl:ys.length=t+2:=by rw[afl.1,ZaQ]
  obtain ⟨Cm,dxm,fsm,psm,dvm,spm,m1,m2,m3,m4,rfl,m5⟩:=mm κ Hb sk (hk.same S0b);obtain ⟨C',dx',fs',ps',dvs',sp',d1,d2,d3,d4,rfl,d5⟩:=mn κ Hb sk (hk.same S0b);refine ⟨_,rfl,.inl ⟨rfl,_,SqL.of hfl⟩,_,rfl,sk,Cm,dxm,fsm,psm,_,spm,rfl,m1,m2,m3.mono ∅,m4,_,rfl,sk,C',dx',fs',ps',_,sp',rfl,d1,d2,d3.mono ∅,d4,d5 Hb 0 0 _ _ (Same.refl _) ZfW λv0 Hc Sc n0=>?_⟩;obtain ⟨Cd,dxd,fsd,psd,dvd,spd,k1,k2,k3,k4,rfl,k5⟩:=md κ Hc sk (hk.same (S0b.trans Sc));have S9c:=Sb.trans Sc;have l1:((A.getD sz []).take sz).length=sz:=by rw[Qa];omega
  refine ⟨_,rfl,sk,Cd,dxd,fsd,psd,_,spd,rfl,k1,k2,k3.mono ∅,k4,_,rfl,_,rfl,?_⟩;refine k5 Hc rw_ col _ cs ((A.getD sz []).take sz) (cvL (ent A) sz t) 1 1 EE (GG^t*EE) _ (Same.refl _) (S9c _ _ hR9) (Sc _ _ hcl) (aR9.mono λ_ _ n=>n.same S9c) (acl.mono λ_ _ n=>n.same Sc) (by rw[l1,ZiE]) ⋯ (λx hx=>qA.getD sz x (U4 hx)) (λx hx=>?_) ∅ ∅ ∅ ∅ ∅ (gg4 ⋯) λHd vd Sd nvd=>?_
  ·obtain ⟨i,_,rfl⟩:=W4.mp hx;exact ZmS qe ⋯ t i
  rw[Zly wd ⋯ ⋯] at nvd;refine m5 Hd v0 vd 0 _ _ (Sc.trans Sd) (n0.same Sd) nvd (ZhP (M:=1) QN.zero ∅) (ZhP (ZnN qe ⋯ t) (gg5 ⋯)) λv9 He Se n9=>?_;rw[<-ZnO] at n9;have Sbe:=Sc.trans (Sd.trans Se);have hfe:=Sbe _ _ hfl;refine ⟨fl,_,_,rfl,rfl,hfe,Q8 (show ys.length<1000 by omega) ∅,?_⟩;have Of:Off [fl] He (upd He fl (.lst (ys++[v9]))):=ZaZ (Same.refl He);have afl2:AllG (NR κ (upd He fl (.lst (ys++[v9])))) (ys++[v9]) (coL (Rg.cn (ent A) sz) (t+1+2)):=by
   rw[show t+1+2=(t+2)+1 by omega,Zg1];exact (afl.mono λ_ _ n=>(n.same Sbe).off hfe Of).append (.one (n9.off hfe Of))
  have S9f:Same H9 (upd He fl (.lst (ys++[v9]))):=Off.same Of (Sb.trans Sbe) (λz hz=>by rw[Q6.mp hz];exact nfl);have hf2:=Zaf (H:=He) (a:=fl) (o:=.lst (ys++[v9]));have hcl2:upd He fl (.lst (ys++[v9])) col=some (.lst cs):=by rw[Zau ne];exact Sbe _ _ hcl
  have acl2:AllG (NR κ (upd He fl (.lst (ys++[v9])))) cs (cvL (ent A) sz t):=acl.mono λ_ _ n=>(n.same Sbe).off hfe Of;generalize upd He fl (.lst (ys++[v9]))=Hf at *;refine ⟨_,rfl,_,rfl,_,rfl,κ,sk,inr,col,is,(A.take sz).map (List.take sz),cs,cvL (ent A) sz t,1,1,EE,GG^t*EE,rfl,hk.same (S09.trans S9f),S9f _ _ hI9,rI9.same S9f,(λf hf=>?_),by rw[Q2,Qa];omega,by rw[ZiE];omega,hcl2,acl2,(λf hf x hx=>?_),(λx hx=>?_),∅,∅,∅,∅,∅,gg4 ⋯,λHg D zs Sg nD hD aD=>?_⟩
  ·obtain ⟨g,hg,rfl⟩:=W4.mp hf;have:=wd g (U4 hg);rw[Qa,ZiE];omega
  ·obtain ⟨g,hg,rfl⟩:=W4.mp hf;exact qA g (U4 hg) x (U4 hx)
  ·obtain ⟨i,_,rfl⟩:=W4.mp hx;exact ZmS qe ⋯ t i
  rw[ZoK wd ⋯ lA] at aD;exact ⟨_,D,zs,_,rfl,S9f.trans Sg,Sg _ _ hf2,afl2.mono (λ_ _ n=>n.same Sg),hD,aD,λz=>by rw[z,hf2] at nD;cases nD⟩
 ·rintro σ Hb ⟨z7,col,cs,ys,rfl,Sb,hfl,afl,-⟩;exact ⟨_,rfl,k Hb fl ys (S09.trans Sb) hfl afl⟩
theorem sc_falling_numbers:FnScope ["kind","table","numbers","size","corner"] ["kind","table"] (Zah ZbE):=‹2›
theorem Zd8(h:Here K mg "falling_numbers" ZbE) (T:Nm mg) (mn:ZcL P w K mg base CF CR) (h_corner_numbers:Has P w K mg base "corner_numbers" 5 ["kind","table","size"] (ZfH CF CR)) (h_product_number:Has P w K mg base "product_number" 5 ["kind","some","others","place"] (ZbI CF CR)):Has P w K mg base "falling_numbers" 6 ["kind","table"] (Zez CF CR):=by
 refine h.has (λ_ _ F=>F.b2 λ_ _ _ _ _ _ _ _=>rfl) λf fd F=>F.ok sc_falling_numbers (λvs H Q E h=>?_) (λcdv A outer s H vs Q E hr h=>?_)
 ·obtain ⟨_,_,_,_,_,_,rfl,_⟩:=h
  rfl
 obtain ⟨κ,sk,tb,rs,A,n,rfl,hk,hT,rx,lA,wd,n5,qA,k⟩:=h;have nd:=sc_falling_numbers.nd;refine ⟨_,(Zac (Zak (i:=2) nd rfl (Or.inr rfl) (ZaN (Zaa (ZaI (pv 0) Zcr hr (Zaa Zad Zab)) Zab)))
  (Zac (Za2 PassesOwn.never rfl (ZaE (by rfl) T.range (Zaa (Zaj Zai (by rfl) T.len boot_len (Zaa (pv 1) Zab)) Zab)) (Zaq (i:=3) nd rfl (Or.inl rfl)) (Zac (Zak (i:=4) nd rfl (Or.inr rfl) (Zam h_corner_numbers hr (by rfl) (Zaa (pv 0) (Zaa (pv 1) (Zaa (pv 3) Zab)))))
   (Zae (Zak (i:=2) nd rfl (Or.inr rfl) (ZaU ["place"] [(0,"kind"),(4,"corner"),(2,"numbers")] rfl (ZaE (by rfl) T.range (Zaa (Zan ZaM (pv 3) Zad) Zab)) (by exact λ_ _ _ _=>(Zaq (i:=0) (show (["place","kind","corner","numbers"]:List Str).Nodup by decide +kernel) rfl (Or.inl rfl))) (by exact λ_ _ _ _=>(Zam h_product_number hr (by rfl) (Zaa (pv 1) (Zaa (pv 2) (Zaa (pv 3) (Zaa (pv 0) Zab)))))) ⟨⟨rfl,rfl,Or.inl rfl⟩,⟨⟨rfl,rfl,Or.inl rfl⟩,⟨⟨rfl,rfl,Or.inl rfl⟩,trivial⟩⟩⟩)))))
  (Zae (Zal (pv 2))))),?_⟩
 have lr:=rx.1;have qe:=λi j=>Zdw qA i j;obtain ⟨C,dx,fs,ps,dvs,sp,c1,c2,c3,c4,rfl,c5⟩:=mn κ H sk hk;refine ⟨_,rfl,sk,C,dx,fs,ps,_,sp,rfl,c1,c2,c3.mono ∅,c4,c5 H 1 1 _ _ (Same.refl _) ZdL λv1 H1 S1 n1=>?_⟩;refine ⟨(by show 1<=sizeLine;decide),λnl nnl=>?_⟩;have Sn:=Zag nnl (.lst [v1]);have qn:=Zaf (H:=H1) (a:=nl) (o:=.lst [v1]);have an:AllG (NR κ (upd H1 nl (.lst [v1]))) [v1] (coL (Rg.qz 0 (ent A)) (0+1)):=AllG.one (n1.same Sn);generalize upd H1 nl (.lst [v1])=H2 at *;have S02:=S1.trans Sn;refine ⟨_,rfl,tb,_,rfl,.inl (SqL.of (S02 _ _ hT)),(n:Int),?_,⋯,⋯,?_⟩
 ·rw[Q2,lr,lA]
 rw[Qu];refine Zbi (lo:=0) (n:=n) (λt σ Hb=>∃(z3 z4:Option V) (nl:Addr) (ys:List V),σ=[some (.ref sk),some (.ref tb),some (.ref nl),z3,z4]/\Same H Hb/\Hb nl=some (.lst ys)/\AllG (NR κ Hb) ys (coL (Rg.qz t (ent A)) (t+1))) ⟨_,_,nl,_,rfl,S02,qn,an⟩ ?_ ?_
 ·rintro t σ Hb ht ⟨z3,z4,nl,ys,rfl,Sb,hnl,anl⟩;refine ⟨_,rfl,_,rfl,_,rfl,κ,sk,tb,rs,A,n,t,(by rw[Qw];rfl),hk.same Sb,Sb _ _ hT,rx.same Sb,lA,wd,n5,ht,qA,λHc D zs Sc hD aD=>?_⟩;have S0c:=Sb.trans Sc;refine ⟨_,rfl,_,_,rfl,rfl,((t+2:Nat):Int),?_,⋯,⋯,?_⟩
  ·rw[Qw];rfl
  rw[Qu];have e1:∀x∈coL (Rg.cn (ent A) t) (t+2),QN κ 1 (GG^7) x:=λx hx=>by
   obtain ⟨i,hi,rfl⟩:=Zlx hx;exact (Zp7 qe ⋯ i).mono (Q7 ∅ ⋯)
  have e2:∀x∈coL (Rg.qz t (ent A)) (t+1),QN κ 1 (8^t*GG^7) x:=λx hx=>by
   obtain ⟨i,hi,rfl⟩:=Zlx hx;exact (ZoJ qe t ⋯ i).mono (Qk _ (Q7 ∅ ⋯))
  refine Zbc (lo:=0) (n:=t+2) (λq ws H2=>Same Hc H2/\AllG (NR κ H2) ws (coL (Rg.qz (t+1) (ent A)) q)) ⋯ ⟨Same.refl _,.nil⟩ ?_ ?_
  ·rintro q ws Hd hq _ ⟨Sd,aw⟩;refine ⟨_,rfl,_,rfl,_,rfl,_,rfl,κ,sk,D,nl,zs,ys,_,_,q,GG^7,8^t*GG^7,(by rw[Qw];rfl),hk.same (S0c.trans Sd),Sd _ _ hD,aD.mono (λ_ _ n=>n.same Sd),Sd _ _ (Sc _ _ hnl),anl.mono (λ_ _ n=>(n.same Sc).same Sd),by rw[ZaQ];omega,by rw[ZaQ];omega,by rw[ZaQ];omega,e1,e2,gg5 ∅,qz5 ⋯ ∅,λHe v Se nv=>⟨Sd.trans Se,?_⟩⟩;rw[Zp6 hq] at nv;rw[Zg1];exact (aw.mono λ_ _ n=>n.same Se).append (.one nv)
  ·rintro ws Hd _ ⟨Sd,aw⟩ nl2 nnl2;have S2:=Zag nnl2 (.lst ws);exact ⟨_,_,nl2,ws,rfl,S0c.trans (Sd.trans S2),Zaf,aw.mono λ_ _ n=>n.same S2⟩
 ·rintro σ Hb ⟨z3,z4,nl,ys,rfl,Sb,hnl,anl⟩;exact ⟨_,rfl,k Hb nl ys Sb hnl anl⟩
end
end My
namespace My.Rg
open PySem L2 PyProof.Rows
section
variable{α:Type}[Lean.Grind.CommRing α]
theorem skS(j t:Nat):skip (j+1) (t+1)=skip j t+1:=by
 by_cases h:t<j
 ·rw[Zex h,Zex ⋯]
 ·rw[ZdO ⋯,ZdO ⋯]
theorem skZ(j:Nat):skip (j+1) 0=0:=Zex ⋯
theorem Zlz:∀ {n:Nat} {a:Nat->Nat->α},det (n+1) a=Sg (λi=>sgn α i*a i 0*det n λt k=>a (skip i t) (k+1)) (n+1)
 |0,a=>by
  show (0:α)+sgn α 0*a 0 0*1=0+sgn α 0*a 0 0*1
  rfl
 |n+1,a=>by
  show Sg (λj=>sgn α j*a 0 j*det (n+1) (λi k=>a (i+1) (skip j k))) (n+1+1)=_;rw[ZbY,ZbY (λi=>sgn α i*a i 0*det (n+1) λt k=>a (skip i t) (k+1))];have z:det (n+1) (λi k=>a (i+1) (skip 0 k))=det (n+1) λt k=>a (skip 0 t) (k+1):=Zba λi k _ _=>by rw[ZdO (Qf k),ZdO (Qf i)]
  rw[z]
  congr 1
  have l:∀j,sgn α (j+1)*a 0 (j+1)*det (n+1) (λi k=>a (i+1) (skip (j+1) k))=Sg (λi=>sgn α (j+1)*a 0 (j+1)*(sgn α i*a (i+1) 0*det n λt k=>a (skip i t+1) (skip j k+1))) (n+1):=λj=>by
   rw[<-Sg_mul,Zlz (n:=n) (a:=λi k=>a (i+1) (skip (j+1) k))]
   congr 1
   refine Sg_congr λi _=>?_;rw[skZ]
   congr 1
   exact Zba λt k _ _=>by rw[skS]
  have r:∀i,sgn α (i+1)*a (i+1) 0*det (n+1) (λt k=>a (skip (i+1) t) (k+1))=Sg (λj=>sgn α (i+1)*a (i+1) 0*(sgn α j*a 0 (j+1)*det n λt k=>a (skip i t+1) (skip j k+1))) (n+1):=λi=>by
   rw[<-Sg_mul]
   congr 1
   show Sg _ (n+1)=_;refine Sg_congr λj _=>?_;show sgn α j*a (skip (i+1) 0) (j+1)*det n (λt k=>a (skip (i+1) (t+1)) (skip j k+1))=_;rw[skZ]
   congr 1
   exact Zba λt k _ _=>by rw[skS]
  rw[Sg_congr (λj _=>l j),Sg_congr (λi _=>r i),Sg_comm];refine Sg_congr λi _=>Sg_congr λj _=>?_;generalize (det n λt k=>a (skip i t+1) (skip j k+1))=x;show (0-sgn α j)*a 0 (j+1)*(sgn α i*a (i+1) 0*x)=(0-sgn α i)*a (i+1) 0*(sgn α j*a 0 (j+1)*x);grind
theorem Zgh:∀ {n:Nat} {a:Nat->Nat->α},det n (λi j=>a j i)=det n a
 |0,_=>rfl
 |n+1,a=>by
  rw[Zlz (a:=a)];show Sg (λj=>sgn α j*a j 0*det n (λi k=>a (skip j k) (i+1))) (n+1)=_;exact Sg_congr λj _=>by rw[Zgh (n:=n) (a:=λi k=>a (skip j i) (k+1))]
def xa(a:Nat->Nat->α):Nat->Nat->Ps α:=λi j=>lin (0-a i j) (if i=j then 1 else 0)
def chi(n:Nat)(a:Nat->Nat->α):Ps α:=det n (xa a)
def dl(α:Type)[Lean.Grind.CommRing α](r k:Nat):α:=if r=k then 1 else 0
theorem ZlA:∀(n:Nat) (A B:Nat->Nat->α) (k:Nat),k<=n->(det n λi j=>lin (A i j) (B i j)).c k=(det n λi j=>lin (B i j) (A i j)).c (n-k)
 |0,_,_,k,h=>by rw[show k=0 by omega];rfl
 |n+1,A,B,k,h=>by
  have e:∀(A B:Nat->Nat->α) m,(det (n+1) λi j=>lin (A i j) (B i j)).c m=Sg (λj=>sgn α j*(A 0 j*(det n λi k=>lin (A (i+1) (skip j k)) (B (i+1) (skip j k))).c m+(if m=0 then 0 else B 0 j*(det n λi k=>lin (A (i+1) (skip j k)) (B (i+1) (skip j k))).c (m-1)))) (n+1):=λA B m=>by
   show (Sg (λj=>sgn (Ps α) j*lin (A 0 j) (B 0 j)*det n (λi k=>lin (A (i+1) (skip j k)) (B (i+1) (skip j k)))) (n+1)).c m=_;rw[Ps.c_Sg];exact Sg_congr λj _=>term_c _ _ _ _ _
  rw[e,e];refine Sg_congr λj _=>?_;have ih:=ZlA n (λi k=>A (i+1) (skip j k)) (λi k=>B (i+1) (skip j k));have dg:=λA B:Nat->Nat->α=>(ZfG n A B).1
  congr 1
  by_cases h0:k=0
  ·subst h0;rw[if_pos rfl,if_neg ⋯,dg _ _ (n+1-0) ⋯,show n+1-0-1=n-0 by omega,<-ih 0 ⋯];grind
  ·rw[if_neg h0,ih (k-1) ⋯,show n-(k-1)=n+1-k by omega]
   by_cases h1:k=n+1
   ·subst h1;rw[dg _ _ (n+1) ⋯,Wq,if_pos rfl];grind
   ·rw[if_neg ⋯,ih k ⋯,show n+1-k-1=n-k by omega];grind
theorem chi_qz{n:Nat}{a:Nat->Nat->α}{k:Nat}(h:k<=n):(chi n a).c k=(qz n a).c (n-k):=by
 unfold chi qz;have e:=ZlA n (λi j=>0-a i j) (dl α) k h;refine e.trans ?_
 congr 1
 refine Zba λi j _ _=>?_;show lin (dl α i j) (0-a i j)=lin (if j=i then 1 else 0) (0-a i j)
 congr 1
 unfold dl
 by_cases q:i=j
 ·rw[if_pos q,if_pos q.symm]
 ·rw[if_neg q,if_neg (λz=>q z.symm)]
theorem Zjq:∀n,det n (dl α)=1
 |0=>rfl
 |n+1=>by
  show Sg (λj=>sgn α j*dl α 0 j*det n (λi k=>dl α (i+1) (skip j k))) (n+1)=1;rw[ZbY];have e1:det n (λi k=>dl α (i+1) (skip 0 k))=1:=by
   rw[<-Zjq n];refine Zba λi k _ _=>?_;rw[ZdO (Qf k)];unfold dl
   by_cases q:i=k
   ·rw[if_pos q,if_pos ⋯]
   ·rw[if_neg q,if_neg ⋯]
  have e2:Sg (λi=>sgn α (i+1)*dl α 0 (i+1)*det n (λi_1 k=>dl α (i_1+1) (skip (i+1) k))) n=Sg (λ_=>(0:α)) n:=Sg_congr λi _=>by
   rw[show dl α 0 (i+1)=0 from if_neg ⋯];grind
  rw[e1,e2,Sg_zero,show dl α 0 0=1 from if_pos rfl];show 1*1*1+0=(1:α);grind
theorem ZoL(n:Nat)(a:Nat->Nat->α):(chi n a).c n=1:=by
 refine ((ZfG n _ _).2).trans ?_;exact Zjq n
def gb(x v u:α)(gs:List α)(N:Nat->Nat->α):Nat->Nat->α:=λr k =>
 if r<gs.length+1 then
  if k<gs.length+1 then
   if r=0 then (if k=0 then v else 0)+(if k=gs.length then u else 0)
   else (if k+1=r then 0-1 else 0)+(if k=r then x else 0)+(if k=gs.length then gs.getD (r-1) 0 else 0)
  else 0
 else if k<gs.length+1 then 0 else N (r-(gs.length+1)) (k-(gs.length+1))
def hn(x v u:α):List α->α
 | []=>v+u
 |g::gs=>hn x (v*x) (u+v*g) gs
def pX(x:α):Nat->α
 |0=>1
 |n+1=>pX x n*x
theorem ZnP(x:α)(m:Nat):∀n,pX x (m+n)=pX x m*pX x n
 |0=>by show pX x m=pX x m*1;grind
 |n+1=>by
  show pX x (m+n)*x=pX x m*(pX x n*x);rw[ZnP x m n];grind
def sub(x:α)(f:Ps α):Ps α:=⟨λk=>pX x k*f.c k⟩
theorem sub_mul(x:α)(f g:Ps α):sub x (f*g)=sub x f*sub x g:=Ps.ext λn=>by
 show pX x n*(f*g).c n=_;rw[Ps.c_mul,Ps.c_mul,Sg_mul];refine Sg_congr λi hi=>?_;show _=pX x i*f.c i*(pX x (n-i)*g.c (n-i));rw[show n=i+(n-i) by omega,ZnP,show i+(n-i)-i=n-i by omega];grind
theorem ZlB(x c:α):sub x (Ps.con c)=Ps.con c:=Ps.ext λn=>by
 show pX x n*(if n=0 then c else 0)=if n=0 then c else 0
 by_cases h:n=0
 ·subst h;rw[if_pos rfl];show 1*c=c;grind
 ·rw[if_neg h];grind
theorem Zp9(x:α)(h:Nat->Ps α)(m:Nat):sub x (Sg h m)=Sg (λi=>sub x (h i)) m:=Ps.ext λn=>by
 show pX x n*(Sg h m).c n=_;rw[Ps.c_Sg,Ps.c_Sg,Sg_mul]
 rfl
theorem ZlC(x:α):∀(n:Nat) (M:Nat->Nat->Ps α),det n (λi j=>sub x (M i j))=sub x (det n M)
 |0,M=>(ZlB x 1).symm
 |n+1,M=>by
  show Sg (λj=>sgn (Ps α) j*sub x (M 0 j)*det n (λi k=>sub x (M (i+1) (skip j k)))) (n+1)=sub x (Sg (λj=>sgn (Ps α) j*M 0 j*det n (λi k=>M (i+1) (skip j k))) (n+1));rw[Zp9];refine Sg_congr λj _=>?_;rw[sub_mul,sub_mul,ZlC x n (λi k=>M (i+1) (skip j k)),ZiC,ZlB]
theorem qz_scl(x:α)(n:Nat)(a:Nat->Nat->α)(k:Nat):(qz n λi j=>x*a i j).c k=pX x k*(qz n a).c k:=by
 have e:(unz λi j=>x*a i j)=λi j=>sub x (unz a i j):=by
  funext i j
  refine Ps.ext λm=>?_;show (if m=0 then (if j=i then (1:α) else 0) else if m=1 then 0-x*a i j else 0)=pX x m*(if m=0 then (if j=i then (1:α) else 0) else if m=1 then 0-a i j else 0)
  by_cases h:m=0
  ·subst h;rw[if_pos rfl,if_pos rfl];show _=1*_;grind
  ·rw[if_neg h,if_neg h]
   by_cases h1:m=1
   ·subst h1;rw[if_pos rfl,if_pos rfl];show _=1*x*_;grind
   ·rw[if_neg h1,if_neg h1];grind
 unfold qz;rw[e,ZlC]
 rfl
end
end My.Rg
namespace My
open PySem L2 PyProof.Rows
section
variable{κ:KX}
theorem QN.up{D E:Int}(hD:0<D)(hE:0<E){M e:Nat}{x:κ.F}(h:QN κ D M x)(bE:E.natAbs<=e):QN κ (D*E) (M*e) x:=by
 cases κ with
 |r p hp=>exact trivial
 |q =>
  obtain ⟨X,rfl,hX⟩:=h;refine ⟨X*E,?_,by rw[Qr];exact Qm hX bE⟩;rw[W9 ⋯ (Int.ne_of_gt (W8 hD hE)),W0,Qv D E]
theorem QN.neg{D:Int}{M:Nat}{x:κ.F}(h:QN κ D M x):QN κ D M (0-x):=by
 cases κ with
 |r p hp=>exact trivial
 |q =>
  obtain ⟨X,rfl,hX⟩:=h;refine ⟨-X,?_,⋯⟩;have:(0-Rat.divInt X D:Rat) = -Rat.divInt X D:=by grind
  show (0-Rat.divInt X D:Rat)=_;rw[this,Rat.neg_divInt]
theorem QN.sub{D:Int}(hD:0<D){M N:Nat}{x y:κ.F}(h:QN κ D M x)(g:QN κ D N y):QN κ D (M+N) (x-y):=by
 have e:x-y=x+(0-y):=by grind
 rw[e];exact QN.add hD h g.neg
theorem ZhS{E N:Nat}(hE:0<E)(hN:0<N){c:κ.F}(h:QN κ (E:Int) N c)(hc:c≠0):∃a:Nat,0<a/\a<=N/\QN κ (a:Int) E (Fd.inv c):=by
 cases κ with
 |r p hp=>exact ⟨1,∅,hN,trivial⟩
 |q =>
  obtain ⟨X,e,hX⟩:=h;have X0:X≠0:=λz=>hc (by rw[e,z];exact Rat.zero_divInt _);have m:Rat.divInt X E*Rat.divInt E X=(1:Rat):=by
   rw[U2];have:X*(E:Int)≠0:=Int.mul_ne_zero X0 ⋯;have e2:(1:Rat)=Rat.divInt 1 1:=rfl;have e3:(E:Int)*X≠0:=Int.mul_ne_zero ⋯ X0;rw[e2,W9 e3 ∅];rw[Uq,Int.one_mul,Qv]
  have ei:Fd.inv c=Rat.divInt E X:=by
   have h1:(c:Rat)*Rat.divInt E X=1:=by rw[e];exact m
   exact (Ze1 (α:=Rat) h1).symm
  refine ⟨X.natAbs,⋯,hX,?_⟩;show ∃Y:Int,(Fd.inv c:Rat)=Rat.divInt Y (X.natAbs:Int)/\Y.natAbs<=E;rcases Int.lt_or_gt_of_ne X0 with s|s
  ·refine ⟨-(E:Int),?_,⋯⟩;have:((X.natAbs:Nat):Int) = -X:=⋯;rw[ei,this,W9 X0 ⋯,U0,Int.neg_mul]
  ·refine ⟨(E:Int),?_,⋯⟩;have:((X.natAbs:Nat):Int)=X:=⋯;rw[ei,this]
noncomputable def gs(G:ZZlk κ)(p k:Nat):κ.F:=if p<=k then G.getD (k-p) 0 else 0
theorem Zas{F:ZZlk κ}{k:Nat}(h:F.length<=k):F.getD k 0=0:=by
 rw[Q1,U3 h];rfl
theorem Zqa{F G:ZZlk κ}{i k:Nat}:∀j:Nat,pI F G i j k=if i<=k/\k<i+j then F.getD i 0*G.getD (k-i) 0 else 0
 |0=>by rw[if_neg ⋯];rfl
 |j+1=>by
  show pI F G i j k+(if i+j=k then F.getD i 0*G.getD j 0 else 0)=_;rw[Zqa j]
  by_cases a:i+j=k
  ·subst a;rw[if_neg ⋯,if_pos rfl,if_pos ⋯,Nat.add_sub_cancel_left];grind
  ·rw[if_neg a]
   by_cases b:i<=k/\k<i+j
   ·rw[if_pos b,if_pos ⋯];grind
   ·rw[if_neg b,if_neg ⋯];exact add00
theorem ZmU{F G:ZZlk κ}{i k:Nat}:pI F G i G.length k=F.getD i 0*gs G i k:=by
 rw[Zqa];unfold gs
 by_cases a:i<=k
 ·rw[if_pos a]
  by_cases b:k<i+G.length
  ·rw[if_pos ⟨a,b⟩]
  ·rw[if_neg ⋯,Zas (show G.length<=k-i by omega)];grind
 ·rw[if_neg ⋯,if_neg a];grind
theorem ZlD{G:ZZlk κ}{m k:Nat}:∀n:Nat,pO (List.replicate m (0:κ.F)) G n k=0
 |0=>rfl
 |n+1=>by
  show pO _ G n k+pI _ G n G.length k=0;have e:(List.replicate m (0:κ.F)).getD n 0=0:=by
   rw[Q1,Uj]
   split <;> rfl
  rw[ZlD n,ZmU,e];grind
theorem ZmV{L:ZZlk κ}{p i:Nat}{x:κ.F}(hp:p<L.length):(L.set p x).getD i 0=if p=i then x else L.getD i 0:=by
 rw[Q1,Q1,Ux]
 by_cases e:p=i
 ·rw[if_pos e,if_pos e,if_pos hp];rfl
 ·rw[if_neg e,if_neg e]
theorem ZnQ{L G:ZZlk κ}{p k:Nat}{x:κ.F}(hp:p<L.length)(h0:L.getD p 0=0):∀n:Nat,pO (L.set p x) G n k=pO L G n k+(if p<n then x*gs G p k else 0)
 |0=>by rw[if_neg ⋯];exact add00.symm
 |n+1=>by
  show pO (L.set p x) G n k+pI (L.set p x) G n G.length k=(pO L G n k+pI L G n G.length k)+_;rw[ZnQ hp h0 n,ZmU,ZmU,ZmV hp]
  by_cases e:p=n
  ·subst e;rw[if_pos rfl,if_neg ⋯,if_pos ⋯,h0];grind
  ·rw[if_neg e]
   by_cases l:p<n
   ·rw[if_pos l,if_pos ⋯];grind
   ·rw[if_neg l,if_neg ⋯];grind
theorem ZhT{T:ZZlk κ}{r:Nat}(h:∀j,r<=j->T.getD j 0=0)(k:Nat):(T.take r).getD k 0=T.getD k 0:=by
 by_cases c:k<r
 ·rw[Q1,We,if_pos c,<-Q1]
 ·rw[h k ⋯,Zas (by rw[Qa];omega)]
def Trm(F:ZZlk κ):Prop:=F.length=0\/F.getD (F.length-1) 0≠0
theorem Zg2{T:ZZlk κ}{r:Nat}(lr:r<=T.length)(h:r=0\/T.getD (r-1) 0≠0):Trm (T.take r):=by
 have e:(T.take r).length=r:=by rw[Qa];omega
 rcases h with h|h
 ·left;omega
 ·by_cases z:r=0
  ·left;omega
  ·right
   rw[e,Q1,We,if_pos ⋯,<-Q1];exact h
theorem ZoM{F G:ZZlk κ}(hF:Trm F)(hG:Trm G)(h:∀k,F.getD k 0=G.getD k 0):F=G:=by
 have le:∀ {A B:ZZlk κ},Trm A->(∀k,A.getD k 0=B.getD k 0)->A.length<=B.length:=by
  intro A B hA h;rcases hA with z|z
  ·omega
  ·refine Nat.le_of_not_lt λc=>z ?_;rw[h,Zas ⋯]
 have l:F.length=G.length:=Nat.le_antisymm (le hF h) (le hG λk=>(h k).symm)
 apply List.ext_getElem l
 intro i h1 h2;have:=h i;rw[Q1,Q1,Q4 h1,Q4 h2] at this;exact this
noncomputable def dI(G:ZZlk κ)(x:κ.F)(p a:Nat)(R:ZZlk κ):ZZlk κ:=(List.range R.length).map λk=>if p<=k/\k<p+a then R.getD k 0-x*G.getD (k-p) 0 else R.getD k 0
theorem ZeS(G:ZZlk κ)(x:κ.F)(p a:Nat)(R:ZZlk κ):(dI G x p a R).length=R.length:=by unfold dI;simp
theorem Zg3{G:ZZlk κ}{x:κ.F}{p a:Nat}{R:ZZlk κ}{k:Nat}(h:k<(dI G x p a R).length):(dI G x p a R)[k]=if p<=k/\k<p+a then R.getD k 0-x*G.getD (k-p) 0 else R.getD k 0:=by simp[dI]
theorem ZlE{G:ZZlk κ}{x:κ.F}{p a:Nat}{R:ZZlk κ}{k:Nat}(h:p+a<=R.length):(dI G x p a R).getD k 0=if p<=k/\k<p+a then R.getD k 0-x*G.getD (k-p) 0 else R.getD k 0:=by
 by_cases c:k<R.length
 ·have c':k<(dI G x p a R).length:=by rw[ZeS];exact c
  rw[Q1,Q4 c'];exact Zg3 c'
 ·rw[Zas (by rw[ZeS];omega),if_neg ⋯,Zas ⋯]
theorem Zsr(G:ZZlk κ)(x:κ.F)(p:Nat)(R:ZZlk κ):dI G x p 0 R=R:=by
 apply List.ext_getElem (by rw[ZeS])
 intro k h1 h2;rw[Zg3,if_neg ⋯,Q1,Q4 h2];rfl
theorem ZoN{G:ZZlk κ}{x:κ.F}{p a:Nat}{R:ZZlk κ}(h:p+a<R.length):dI G x p (a+1) R=(dI G x p a R).set (p+a) ((dI G x p a R).getD (p+a) 0-x*G.getD a 0):=by
 rw[ZlE ⋯,if_neg ⋯]
 apply List.ext_getElem (by rw[W6,ZeS,ZeS])
 intro k h1 h2;rw[List.getElem_set,Zg3,Zg3]
 by_cases e:p+a=k
 ·subst e;rw[if_pos ⋯,if_pos rfl,Nat.add_sub_cancel_left]
 ·rw[if_neg e]
  by_cases b:p<=k/\k<p+a
  ·rw[if_pos b,if_pos ⋯]
  ·rw[if_neg b,if_neg ⋯]
structure Dv (F G:ZZlk κ) (t:Nat) (qs R:ZZlk κ):Prop where
 lq:qs.length=t
 lr:R.length=F.length
 eq:∀k,F.getD k 0=pO (List.replicate (F.length+1-G.length-t) 0++qs.reverse) G (F.length+1-G.length) k+(if k<F.length-t then R.getD k 0 else 0)
 top:∀x,qs[0]?=some x->x=F.getD (F.length-1) 0*Fd.inv (G.getD (G.length-1) 0)
 fst:t=0->R=F
theorem Zss(F G:ZZlk κ):Dv F G 0 [] F:=by
 refine ⟨rfl,rfl,λk=>?_,λx h=>by simp at h,λ_=>rfl⟩;rw[List.reverse_nil,Us,ZlD]
 by_cases c:k<F.length-0
 ·rw[if_pos c];grind
 ·rw[if_neg c,Zas ⋯];exact add00.symm
theorem ZoO{F G:ZZlk κ}{t d p:Nat}{qs R:ZZlk κ}{x:κ.F}(hG:G.length=d+1)(hc:G.getD d 0≠0)(hp:p+(d+1)+t=F.length)(h:Dv F G t qs R)(hx:x=R.getD (p+d) 0*Fd.inv (G.getD d 0)):Dv F G (t+1) (qs++[x]) (dI G x p d R):=by
 have lq:=h.lq;have lr:=h.lr;have hm:=Fd.mul_inv (G.getD d 0) hc;have en:F.length+1-G.length=p+t+1:=⋯;refine ⟨by rw[Qg,lq];rfl,by rw[ZeS,lr],λk=>?_,λy hy=>?_,λz=>⋯⟩
 ·rw[h.eq k,en];have e1:List.replicate (p+t+1-(t+1)) (0:κ.F)++(qs++[x]).reverse=(List.replicate (p+t+1-t) (0:κ.F)++qs.reverse).set p x:=by
   have a1:p+t+1-(t+1)=p:=⋯;have a2:p+t+1-t=p+1:=⋯;rw[a1,a2,List.reverse_append,List.replicate_succ',List.append_assoc];show List.replicate p 0++(x::qs.reverse)=(List.replicate p 0++(0::qs.reverse)).set p x;rw[List.set_append_right _ _ (by rw[Wa];omega),Wa,Wq]
   rfl
  have l0:p<(List.replicate (p+t+1-t) (0:κ.F)++qs.reverse).length:=by rw[Qg,Wa];omega
  have z0:(List.replicate (p+t+1-t) (0:κ.F)++qs.reverse).getD p 0=0:=by
   rw[Q1,Wh (by rw[Wa];omega),Uj,if_pos ⋯];rfl
  rw[e1,ZnQ l0 z0,ZlE ⋯];have pp:p<p+t+1:=⋯
  simp only[pp,if_true]
  have key:(if k<F.length-t then R.getD k 0 else 0)=x*gs G p k+(if k<F.length-(t+1) then (if p<=k/\k<p+d then R.getD k 0-x*G.getD (k-p) 0 else R.getD k 0) else 0):=by
   unfold gs
   by_cases a:k<p
   ·rw[if_pos ⋯,if_neg ⋯,if_pos ⋯,if_neg ⋯];grind
   ·by_cases b:k<p+d
    ·rw[if_pos ⋯,if_pos ⋯,if_pos ⋯,if_pos ⋯];grind
    ·by_cases c:k=p+d
     ·subst c;rw[if_pos ⋯,if_pos ⋯,if_neg ⋯,Nat.add_sub_cancel_left,hx];grind
     ·rw[if_neg ⋯,if_pos ⋯,if_neg ⋯,Zas (show G.length<=k-p by omega)];grind
  rw[key];grind
 ·by_cases z:t=0
  ·subst z;have q0:qs=[]:=List.length_eq_zero_iff.mp lq;subst q0;have hy:some x=some y:=hy
   cases hy
   rw[hx,h.fst rfl,hG]
   congr 2
   omega
  ·rw[Wh ⋯] at hy;exact h.top y hy
theorem ZnR{F G:ZZlk κ}{t d:Nat}{qs R:ZZlk κ}(hG:G.length=d+1)(ht:t=F.length+1-G.length)(h:Dv F G t qs R)(k:Nat):F.getD k 0=pO qs.reverse G qs.reverse.length k+(R.take d).getD k 0:=by
 have e:=h.eq k;have lq:=h.lq;have lr:=h.lr;rw[<-ht,Wq] at e;rw[Wr,lq,e];show pO ([]++qs.reverse) G t k+_=_;rw[List.nil_append]
 congr 1
 by_cases c:F.length<=d
 ·have t0:t=0:=⋯;subst t0;rw[Wt ⋯]
  by_cases b:k<F.length-0
  ·rw[if_pos b]
  ·rw[if_neg b,Zas ⋯]
 ·by_cases b:k<F.length-t
  ·rw[if_pos b,Q1,Q1,We,if_pos ⋯]
  ·rw[if_neg b,Zas (by rw[Qa];omega)]
end
inductive Zb0 (CF CR:Addr) (vs:List V) (H:Hp) (Q:VK) (zE:XK):Prop
 |mk (κ:KX) (s a:Addr) (xs:List V) (g:ZZlk κ) (_:vs=[.ref s,.ref a]) (_:KdX CF CR κ H s) (_:H a=some (.lst xs)) (_:AllG (NR κ H) xs g) (_:∀(H':Hp) (D:Addr) (r:Nat),Same H H'->H D=none->H' D=some (.lst (xs.take r))->r<=g.length->(∀j,r<=j->g.getD j 0=0)->(r=0\/g.getD (r-1) 0≠0)->Q (.ref D) H'):Zb0 CF CR vs H Q zE
structure DvIn {κ:KX} (F G:ZZlk κ) (D E M N:Nat):Prop where
 lF:F.length<=100
 lG:G.length<=100
 tG:Trm G
 qF:∀x∈F,QN κ (D:Int) M x
 qG:∀x∈G,QN κ (E:Int) N x
 d0:0<D
 e0:0<E
 m0:0<M
 n0:0<N
 eN:E<=N
 bD:D*(N*E)^(F.length+1-G.length)<2^3000
 bM:M*(2*(E*N))^(F.length+1-G.length)<2^3000
 bE:E<2^3000
 bN:N<2^3000
structure DvOut {κ:KX} (F G:ZZlk κ) (D E M N a:Nat) (qs R:ZZlk κ) (r:Nat):Prop where
 dv:Dv F G (F.length+1-G.length) qs R
 lr:r<=(R.take (G.length-1)).length
 r0:∀j,r<=j->(R.take (G.length-1)).getD j 0=0
 r1:r=0\/(R.take (G.length-1)).getD (r-1) 0≠0
 a0:0<a
 aN:a<=N
 qq:∀x∈qs,QN κ ((D*(a*E)^(F.length+1-G.length):Nat):Int) (M*(2*(E*N))^(F.length+1-G.length)) x
 qR:∀x∈R,QN κ ((D*(a*E)^(F.length+1-G.length):Nat):Int) (M*(2*(E*N))^(F.length+1-G.length)) x
def ZeC(CF CR cN:Addr):Sp:=λvs H Q Ee=>∃(κ:KX) (s fa ga:Addr) (xs ys:List V) (F G:ZZlk κ) (D E M N:Nat),vs=[.ref s,.ref fa,.ref ga]/\KdX CF CR κ H s/\H fa=some (.lst xs)/\AllG (NR κ H) xs F/\H ga=some (.lst ys)/\AllG (NR κ H) ys G/\DvIn F G D E M N ∧
 (G.length=0->Ee (.ref cN) none H) ∧
 (0<G.length->∀(H':Hp) (tp qa ra:Addr) (qv rv:List V) (qs R:ZZlk κ) (a r:Nat),Same H H'->H' tp=some (.tup [.ref qa,.ref ra])->H' qa=some (.lst qv)->H' ra=some (.lst rv)->AllG (NR κ H') qv qs.reverse->AllG (NR κ H') rv ((R.take (G.length-1)).take r)->DvOut F G D E M N a qs R r->H qa=none->H ra=none->qa≠ra->Q (.ref tp) H')
theorem Zg4{κ:KX}{H:Hp}{xs:List V}{f:ZZlk κ}(h:AllG (NR κ H) xs f):AllG (NR κ H) xs.reverse f.reverse:=by
 obtain ⟨l,h⟩:=h;refine ⟨by rw[Wr,Wr,l],λi v d hv hd=>?_⟩;have hi:i<xs.length:=by
  have:=(Qo.mp hv).1;rw[Wr] at this;exact this
 rw[Uf hi] at hv;rw[Uf ⋯,<-l] at hd;exact h _ v d hv hd
section
variable{κ:KX}
theorem Zrc{D a E t n:Nat}(ha:0<a)(hE:0<E)(h:t<=n):D*(a*E)^t<=D*(a*E)^n:=Qk _ (Q7 (Q9 ha hE) h)
theorem Zrd{M E N t n:Nat}(hE:0<E)(hN:0<N)(h:t<=n):M*(2*(E*N))^t<=M*(2*(E*N))^n:=Qk _ (Q7 (Q9 ∅ (Q9 hE hN)) h)
theorem Zst{D a E N n:Nat}(h:a<=N):D*(a*E)^n<=D*(N*E)^n:=Qk _ (U8 (Qp _ h) n)
theorem QN.upN{D c:Nat}(hD:0<D)(hc:0<c){M:Nat}{x:κ.F}(h:QN κ (D:Int) M x):QN κ ((D*c:Nat):Int) (M*c) x:=by
 rw[W1];exact QN.up ⋯ ⋯ h ⋯
theorem QN.mulN{D E M N:Nat}{x y:κ.F}(h:QN κ (D:Int) M x)(g:QN κ (E:Int) N y):QN κ ((D*E:Nat):Int) (M*N) (x*y):=by
 rw[W1];exact QN.mul h g
theorem Zre{D a E M N t:Nat}(hD:0<D)(ha:0<a)(haN:a<=N)(hE:0<E)(hEN:E<=N){R c g:κ.F}(hR:QN κ ((D*(a*E)^t:Nat):Int) (M*(2*(E*N))^t) R)(hc:QN κ (a:Int) E c)(hg:QN κ (E:Int) N g):QN κ ((D*(a*E)^(t+1):Nat):Int) (M*(2*(E*N))^(t+1)) (R*c)/\QN κ ((D*(a*E)^(t+1):Nat):Int) (M*(2*(E*N))^(t+1)) (R*c*g)/\(∀S:κ.F,QN κ ((D*(a*E)^t:Nat):Int) (M*(2*(E*N))^t) S->QN κ ((D*(a*E)^(t+1):Nat):Int) (M*(2*(E*N))^(t+1)) S/\QN κ ((D*(a*E)^(t+1):Nat):Int) (M*(2*(E*N))^(t+1)) (S-R*c*g)):=by
 have hDt:0<D*(a*E)^t:=Q9 hD (Qd (Q9 ha hE));have eD:D*(a*E)^(t+1)=D*(a*E)^t*(a*E):=by rw[Qq,Qz]
 have eM:M*(2*(E*N))^(t+1)=M*(2*(E*N))^t*(E*N)+M*(2*(E*N))^t*(E*N):=by
  rw[Qq,<-Qz,<-Qz (M*(2*(E*N))^t) 2,<-Nat.add_mul]
  congr 1
  omega
 generalize D*(a*E)^t=Dt at *;generalize M*(2*(E*N))^t=Mt at *;rw[eD,eM];have x1:=QN.mulN hR hc;have x2:=QN.upN (Q9 hDt ha) hE x1;have y1:=QN.mulN x1 hg;have eb:Dt*a*E=Dt*(a*E):=Qz _ _ _;rw[eb] at x2 y1;have l1:Mt*E*N=Mt*(E*N):=Qz _ _ _;rw[l1] at y1;have lS:Mt*(a*E)<=Mt*(E*N):=Qk _ (by rw[Wi a E];exact Qk _ haN);have lE:Mt*E*E<=Mt*(E*N):=by rw[Qz];exact Qk _ (Qk _ hEN)
 have hDp:(0:Int)<((Dt*(a*E):Nat):Int):=by have:=Q9 hDt (Q9 ha hE);omega
 refine ⟨x2.mono ⋯,y1.mono ⋯,λS hS=>?_⟩;have u:=QN.upN hDt (Q9 ha hE) hS;exact ⟨u.mono ⋯,(QN.sub hDp u y1).mono ⋯⟩
theorem Zrf{B:Int}{M:Nat}{G R:ZZlk κ}{x:κ.F}{p a:Nat}(h:∀y∈R,QN κ B M y)(h2:∀y∈R,∀j,j<a->QN κ B M (y-x*G.getD j 0)):∀y∈dI G x p a R,QN κ B M y:=λy hy=>by
 unfold dI at hy;obtain ⟨k,hk,rfl⟩:=W4.mp hy;have hk:=U9.mp hk;have m:=Qc (Zck hk)
 by_cases c:p<=k/\k<p+a
 ·rw[if_pos c];exact h2 _ m _ ⋯
 ·rw[if_neg c];exact h _ m
end
end My
namespace L2
open PySem PySem.Spec PyProof.Rows
theorem ZoP{K:ZZfg}{a:Addr}{xs:List V}{g:TG}{tb:TS}{D:Ends}{σ:St}{H:Hp}(Pv:Nat->St->Hp->Prop)(h0:Pv 0 σ H)(hl:∀i σ H,i<=xs.length->Pv i σ H->SqL K H a xs)
    (hs:∀i x σ H,xs.reverse[i]?=some x->Pv i σ H->g x σ H λσ2 H2=>tb { D with nx:=Pv (i+1),ct:=Pv (i+1),bk:=D.nx } σ2 H2) (hd:∀σ H,Pv xs.length σ H->D.nx σ H) :
    ∃W:Nat->Nat->St->Hp->Prop,(∃m,W 0 m σ H)/\∀i m σ H,W i m σ H →
      ((Itv K a xs.length).stop i H/\D.nx σ H)\/((Itv K a xs.length).go i H/\∃N:St->Hp->Prop,(∀σ' H',N σ' H'->∃m',m'<m/\W (i+1) m' σ' H')/\∀x H',(Itv K a xs.length).yld i H x H'->g x σ H' λσ2 H2=>tb { D with nx:=N,ct:=N,bk:=D.nx } σ2 H2):=by
  refine ⟨λi m σ H=>m=xs.length-i/\i<=xs.length/\Pv i σ H,⟨_,rfl,Qf _,h0⟩,?_⟩;rintro i m σ H ⟨rfl,hi,p⟩;have q:=hl i σ H hi p
  by_cases h:i<xs.length
  · refine .inr ⟨⟨h,xs,q,rfl⟩,Pv (i+1),λσ' H' p'=>⟨xs.length-(i+1),⋯,rfl,h,p'⟩,λx H' y=>?_⟩
    obtain ⟨e1,e2⟩:=y;subst e1;exact hs i x σ _ (by rw[Uf h]; exact e2 xs q) p
  · have e:i=xs.length:=⋯
    subst e;exact .inl ⟨rfl,hd σ H p⟩
section
variable{X:Cx}
def ipM:TIp:=λx y H Q=>∃i j,x = .int i/\y = .int j/\IntMulOk i j/\Q (.int (i*j)) H
theorem ZoQ:PIp X .Mult ipM:=by
 intro pins s σ H x y v u Q I r1 r2 h;obtain ⟨i,j,e1,e2,hm,q⟩:=h;subst e1;subst e2;obtain ⟨t,rfl⟩:=r1;obtain ⟨t',rfl⟩:=r2;exact PyProof.Rows.imul_int ⟨.int _,H,I.tok _,⟨_,rfl⟩,q⟩ hm
end
end L2
namespace My
open PySem L2 PyProof.Rows
section
variable{κ:KX}
noncomputable def hv(F:ZZlk κ)(x:κ.F):Nat->κ.F
 |0=>0
 |i+1=>hv F x i*x+F.reverse.getD i 0
noncomputable def tot(F:ZZlk κ)(R P:ZZll κ)(u x:κ.F):Nat->ZZll κ
 |0=>ZhM 0 (Zp2 κ R.length)
 |i+1=>Zsq (mulT (tot F R P u x i) P R.length) (ZhM (F.reverse.getD i 0*(u*x^i)) (Zp2 κ R.length))
theorem ZoR{x:κ.F}(hx:QN κ ((1:Nat):Int) 12 x):∀i,QN κ ((1:Nat):Int) (12^i) (x^i)
 |0=>by
  have e:x^0=(1:κ.F):=by grind
  rw[e];exact ZfB
 |i+1=>by
  have e:x^(i+1)=x^i*x:=by grind
  rw[e,Qq];exact QN.mulN (D:=1) (E:=1) (ZoR hx i) hx
end
theorem Zjr{κ:KX}:κ.mulF (K1 κ) (K1 κ)=K1 κ:=by show (1:κ.F)*1=1;grind
structure Wn (κ:KX) (A:Int) (x:κ.F) (B:Nat):Prop where
 n:NumV κ A x
 p:0<A
 l:A.natAbs<=B
 r:κ ≠ .q->A=1
theorem ZdP{κ:KX}:(1:κ.F)≠0:=λz=>Fd.zne z.symm
theorem Wn.ne{κ:KX}{A:Int}{x:κ.F}{B:Nat}(h:Wn κ A x B):x≠0:=λz=>by
 have h0:=h.p
 by_cases hq:κ = .q
 ·subst hq;have e1:Rat.num x=A:=h.n.1;have z:x=(0:Rat):=z;rw[z] at e1;have:(0:Int)=A:=e1;omega
 ·have a:=h.r hq;have n:=h.n;rw[a] at n;have e:=n.uniq ZdL;rw[z] at e;exact ZdP e.symm
theorem Wn.mul{κ:KX}{A C:Int}{x y:κ.F}{B E:Nat}(h:Wn κ A x B)(g:Wn κ C y E):Wn κ (A*C) (x*y) (B*E):=by
 refine ⟨?_,W8 h.p g.p,by rw[Qr];exact Qm h.l g.l,λz=>by rw[h.r z,g.r z];rfl⟩
 cases κ with
 |q =>
  have e1:Rat.num x=A:=h.n.1;have e2:Rat.den x=1:=h.n.2;have e3:Rat.num y=C:=g.n.1;have e4:Rat.den y=1:=g.n.2;have m:=Zii (x:=x) (y:=y) (n:=A*C) (d:=1) ⟨∅,by rw[Int.gcd_one]⟩ (by rw[e1,e2,e3,e4];simp);exact ⟨m.1,by have:=m.2;omega⟩
 |r p hp =>
  have a:=h.r (λz=>nomatch z);have b:=g.r (λz=>nomatch z);subst a b;rw[h.n.uniq ZdL,g.n.uniq ZdL];show NumV _ (1*1) ((KX.r p hp).mulF (K1 _) (K1 _));rw[Zjr];exact ZdL
theorem wn1{κ:KX}:Wn κ 1 1 1:=⟨ZdL,∅,∅,λ_=>rfl⟩
theorem Wn.qn{κ:KX}{A:Int}{x:κ.F}{B:Nat}(h:Wn κ A x B):QN κ ((1:Nat):Int) B x:=(Zlq h.n).mono h.l
theorem Zqb{κ:KX}{D M:Nat}(hD:0<D)(lD:D<=10^60){f:ZZlk κ}{A:Int}(h:∀x∈f,QN κ (D:Int) M x)(b:ZnB κ f A){x:κ.F}(n:NumV κ A x):Wn κ A x D:=by
 obtain ⟨b0,b1⟩:=Zlp hD h b;refine ⟨n,b0,b1,λz=>?_⟩
 cases κ with
 |q=>exact absurd rfl z
 |r p hp=>exact b
theorem ZrM{κ:KX}(x:κ.F)(i:Nat):x^(i+1)=x^i*x:=by grind
theorem ZrN{κ:KX}(x:κ.F):x^0=1:=by grind
section
variable{κ:KX}
theorem ZnS(x:κ.F):∀i,Rg.pX x i=x^i
 |0=>by rw[ZrN];rfl
 |i+1=>by rw[ZrM,<-ZnS x i];rfl
theorem ZoS(x:κ.F)(R:ZZll κ):ent (ZhM x R)=λi j=>x*ent R i j:=by
 funext i j
 unfold ent ZhM;rw[Q1 (l:=List.map _ R),Qb,Q1 (l:=R)]
 cases h:R[i]? with
 |none =>
  show ([]:ZZlk κ).getD j 0=x*([]:ZZlk κ).getD j 0;show (0:κ.F)=x*0;grind
 |some f =>
  show (f.map (x * ·)).getD j 0=x*f.getD j 0;exact ZgP f x j
theorem ZmW{R:ZZll κ}{D M:Nat}{A:Int}{x:κ.F}(hD:0<D)(q:AllR (QN κ (D:Int) M) R)(b:ZnB κ R.flatten A)(n:NumV κ A x):AllR (QN κ 1 M) (ZhM x R):=λf hf y hy=>by
 obtain ⟨f0,hf0,rfl⟩:=W4.mp hf;obtain ⟨y0,hy0,rfl⟩:=W4.mp hy;have qf:∀z∈R.flatten,QN κ (D:Int) M z:=λz hz=>by
  obtain ⟨f,hf,hz⟩:=List.mem_flatten.mp hz;exact q f hf z hz
 have bl:=Zlp hD qf b
 cases κ with
 |r p hp=>exact trivial
 |q =>
  obtain ⟨X,e,l⟩:=q f0 hf0 y0 hy0;obtain ⟨c,hc⟩:=b.2.1 y0 (List.mem_flatten.mpr ⟨f0,hf0,hy0⟩);have hx:x=((A:Int):Rat):=Rat.ext n.1 n.2;have d0:(0:Int)<(Rat.den y0:Int):=by have:=Rat.den_pos y0;omega
  have x1:x=Rat.divInt A 1:=by rw[<-W3 x,n.1,n.2];rfl
  have D0:(D:Int)≠0:=⋯;have ey:x*y0=Rat.divInt (Rat.num y0*c) 1:=by
   have e1:x*y0=Rat.divInt (A*Rat.num y0) (1*(Rat.den y0:Int)):=by
    rw[<-U2,<-x1,W3]
   rw[e1,W9 ⋯ ∅,hc];generalize Rat.num y0=u;generalize ((Rat.den y0:Nat):Int)=v;grind
  refine ⟨Rat.num y0*c,ey,?_⟩;have e2:x*y0=Rat.divInt (A*X) (1*(D:Int)):=by
   rw[<-U2,<-x1,<-e]
  rw[e2,W9 ⋯ ∅] at ey;have ez:A*X=Rat.num y0*c*D:=by
   have:A*X*1=Rat.num y0*c*(1*(D:Int)):=ey;generalize Rat.num y0*c=u at *;grind
  have ea:A.natAbs*X.natAbs=(Rat.num y0*c).natAbs*D:=by
   have:=congrArg Int.natAbs ez;rw[Qr,Qr (Rat.num y0*c)] at this;rw[this,Qj]
  refine Nat.le_of_mul_le_mul_right (c:=D) ?_ hD;rw[<-ea,Wi M D];exact Qm bl.2 l
theorem Zrg{A:Int}{x:κ.F}{B:Nat}(h:Wn κ A x B):∀i,Wn κ (A^i) (x^i) (B^i)
 |0=>by rw[ZrN,Int.pow_zero,Nat.pow_zero];exact wn1
 |i+1=>by
  rw[ZrM,Int.pow_succ,Qq];exact (Zrg h i).mul h
theorem Zqc{b:Int}{y:κ.F}{B:Nat}(h:Wn κ b y B)(l:B<=10^500):B1 κ (Fd.inv y):=by
 obtain ⟨a,a0,al,q⟩:=ZhS (E:=1) (N:=B+1) ∅ ⋯ (h.qn.mono ⋯) h.ne;have z:B+1<2^3000:=Q5 (Nat.add_le_add_right l 1) ∅;exact q.b1 ⋯ (by rw[Qj];exact Q5 al z) ∅
theorem ZiF(m:Nat)(a:Nat->Nat->κ.F):(coL (Rg.qz m a) (m+1)).reverse=coL (Rg.chi m a) (m+1):=by
 refine List.ext_getElem? λi=>?_
 by_cases h:i<m+1
 ·rw[Uf (by rw[ZaQ];exact h),ZaQ];have g:∀(f:Rg.Ps κ.F) j,j<m+1->(coL f (m+1))[j]?=some (f.c j):=λf j hj=>by
   unfold coL;rw[Qb,Wf hj]
   rfl
  rw[g _ _ ⋯,g _ _ h,Rg.chi_qz ⋯,show m+1-1-i=m-i by omega]
 ·rw[U3 (by rw[Wr,ZaQ];omega),U3 (by rw[ZaQ];omega)]
def GrS(κ:KX)(A:ZZll κ):Prop:=∃D M:Nat,0<D/\D<=10^42/\M<=10^45/\AllR (QN κ (D:Int) M) A
end
def Zjs(P:Program)(w:World)(K:ZZfg)(mg:ZZmg)(base:Heap)(CF CR:Addr):Prop :=
 ∀(κ:KX) (H:Hp) (s:Addr),KdX CF CR κ H s->∃C dx fs ps dvs sp,H s=some (.ins C dx fs)/\Cls K C/\HasMX P w K mg base C "number" 3 ps dvs sp/\fs.lookup ("number":Str)=none/\dvs=[] ∧
  ∀(H':Hp) (b:Int) (y:κ.F) (Q:VK) (E:XK),Same H H'->NumV κ b y->0<b->b.natAbs<=10^1000->(κ ≠ .q->b=1)->(∀v H'',Same H' H''->NR κ H'' v (Fd.inv y)->Q v H'')->sp [.ref s,.int 1,.int b] H' Q E
inductive Zg5 (CF CR cF:Addr) (vs:List V) (H:Hp) (Q:VK) (E:XK):Prop
 |mk (κ:KX) (s tb:Addr) (rs:ZZla) (A:ZZll κ) (m:Nat) (_:vs=[.ref s,.ref tb]) (_:KdX CF CR κ H s) (_:TabL κ H tb rs A m) (_:(A.length≠m->E (.ref cF) none H)) (_:(A.length=m->m<=7/\GrS κ A/\∀(H':Hp) (D:Addr) (ys:List V),Same H H'->H D=none->H' D=some (.lst ys)->AllG (NR κ H') ys (coL (Rg.chi m (ent A)) (m+1))->Q (.ref D) H')):Zg5 CF CR cF vs H Q E
section
variable{P:Program}{w:World}{K:ZZfg}{mg:ZZmg}{base:Heap}{CF CR cF cN:Addr}
theorem sc_great:FnScope ["kind","A","part","numbers","bottom","each"] ["kind","A"] (Zah Zid):=‹2›
theorem ZmX(h:Here K mg "great" Zid) (T:Nm mg) (Tv:mg "reversed"=none) (mc:Zjs P w K mg base CF CR) (mt:ZfV P w K mg base CF CR "times" (λ_ x y=>x*y)) (h_need_square:HasX P w K mg base "need_square" 6 ["table"] (Zbw cF)) (h_evenly_freed:Has P w K mg base "evenly_freed" 6 ["kind","table"] (ZbS CF CR)) (h_falling_numbers:Has P w K mg base "falling_numbers" 6 ["kind","table"] (Zez CF CR)):HasX P w K mg base "great" 7 ["kind","A"] (Zg5 CF CR cF):=by
 refine h.hasX (λ_ _ F=>F.b2 λ_ _ _ _ _ _ _ _=>rfl) λf fd F=>F.okx sc_great (λvs H Q E h=>?_) (λcdv A outer s H vs Q E hr h=>?_)
 ·obtain ⟨_,_,_,_,_,_,rfl,_⟩:=h
  rfl
 obtain ⟨κ,sk,tb,rs,A,m,rfl,hk,ta,kF,kS⟩:=h;have nd:=sc_great.nd;refine ⟨_,(Zac (ZaT (ZbA h_need_square Zff hr (by rfl) (Zaa (pv 1) Zab)))
  (Zac (Zak (i:=2) nd rfl (Or.inl rfl) (Zam h_evenly_freed hr (by rfl) (Zaa (pv 0) (Zaa (pv 1) Zab))))
  (Zac (Zak (i:=3) nd rfl (Or.inl rfl) (ZaN Zab))
  (Zac (Zak (i:=4) nd rfl (Or.inl rfl) Zad)
  (Zac (Za2 PassesOwn.leaving rfl (ZaD (Zam h_falling_numbers hr (by rfl) (Zaa (pv 0) (Zaa (Zao Zax (pv 2) Zad (λ_ _=>rfl)) Zab)))) (Zaq (i:=5) nd rfl (Or.inl rfl)) (Zac (ZaT (ZeU PySem.F.plainAttrs_list PySem.F.slot_list_append PySem.F.type_list_append Za6 (pv 3) (Zaa (Zaz (pv 0) hr (Zaa (pv 5) (Zaa (ZaI (pv 0) Zcr hr (Zaa Zad (Zaa (pv 4) Zab))) Zab))) Zab)))
   (Zae (ZiZ (i:=4) nd rfl (Or.inl rfl) (Zao Zax (pv 2) Zad (λ_ _=>rfl)) ZoQ))))
  (Zae (Zal (Zeu (by rfl) T.list (by rfl) Tv rfl (Zaa (pv 3) Zab))))))))),?_⟩
 refine ⟨_,rfl,κ,tb,rs,A,m,rfl,ta,(λsq=>?_),kF⟩;obtain ⟨m7,⟨D,M,D0,lD,lM,qA⟩,k⟩:=kS sq;have lr:=ta.r.1;have n1:=ta.n1;refine ⟨_,rfl,_,rfl,κ,sk,tb,rs,A,m,D,M,rfl,hk,ta,qA,D0,Q0 lD ∅,Q0 lM ∅,λH1 tp D' rs' bA x S1 htp bv nx tF=>?_⟩;have qFl:∀y∈A.flatten,QN κ (D:Int) M y:=λy hy=>by
  obtain ⟨f,hf,hy⟩:=List.mem_flatten.mp hy;exact qA f hf y hy
 have wx:Wn κ bA x D:=Zqb D0 (Q0 lD ∅) qFl bv nx;have qF:AllR (QN κ 1 EE) (ZhM x A):=λf hf y hy=>(ZmW D0 qA bv nx f hf y hy).mono (Q0 lM ∅);refine ⟨∅,λna nna=>?_⟩;have Sn:=Zag nna (.lst []);have qn:=Zaf (H:=H1) (a:=na) (o:=.lst []);generalize upd H1 na (.lst [])=H2 at *;have S02:=S1.trans Sn;refine ⟨_,rfl,_,rfl,tp,_,0,_,rfl,rfl,SqT.of (Sn _ _ htp),rfl,κ,sk,D',rs',ZhM x A,m,rfl,hk.same S02,Sn _ _ tF.l,tF.r.same Sn,by rw[ZgX];exact sq,tF.w,m7,qF,λH3 L zs S3 hL aL=>?_⟩;have lz:zs.length=m+1:=by rw[aL.1,ZaQ]
 have S13:=Sn.trans S3;have S03:=S1.trans S13;refine ⟨L,rfl,⟨_,SqL.of hL⟩,?_⟩;have nL:L≠na:=λz=>by
  rw[z,S3 _ _ qn] at hL;have:[]=zs:=by injection (Option.some.inj hL)
  rw[<-this] at lz;exact absurd lz (by show ¬0=m+1;omega)
 have eF:ent (ZhM x A)=λi j=>x*ent A i j:=ZoS x A;have en:∀i,(Rg.qz m (ent (ZhM x A))).c i*Fd.inv (x^i)=(Rg.qz m (ent A)).c i:=λi=>by
  rw[eF,Rg.qz_scl,ZnS];have mi:=Fd.mul_inv (x^i) (Zrg wx i).ne;generalize Fd.inv (x^i)=q at *;generalize (Rg.qz m (ent A)).c i=d at *;generalize x^i=y at *;grind
 have bi:∀i,i<=8->D^i<=10^500:=λi hi=>Q0 (U8 lD i) (Q0 (Q7 ∅ hi) ∅);refine ZbV (K:=K) (a:=L) (xs:=zs) (λi σ H4=>∃(z5:Option V) (ys:List V),σ=[some (.ref sk),some (.ref tb),some (.ref tp),some (.ref na),some (.int (bA^i)),z5]/\Off [na] H3 H4/\H4 na=some (.lst ys)/\AllG (NR κ H4) ys (coL (Rg.qz m (ent A)) i)) ⟨_,[],by rw[Int.pow_zero];rfl,λ_ _ _ q=>q,S3 _ _ qn,.nil⟩ ?_ ?_ ?_
 ·rintro i σ H4-⟨z5,ys,rfl,O4,-⟩;exact SqL.of (O4 _ _ (λz=>nL (Q6.mp z)) hL)
 ·rintro i v σ H4 hx ⟨z5,ys,rfl,O4,hna,ays⟩;have hi:i<m+1:=by have:=(Qo.mp hx).1;omega
  obtain ⟨v',hv',nv⟩:=Za1 aL (i:=i) (by rw[ZaQ];omega);rw[hx] at hv';obtain rfl:=Option.some.inj hv';rw[Zd7 _ ⋯] at nv;have S14:Same H1 H4:=Off.same O4 S13 (λz hz=>by rw[Q6.mp hz];exact nna);have S04:=S1.trans S14;have nv4:=nv.off (S3 _ _ qn) O4;have wi:=Zrg wx i;have ly:ys.length=i:=by rw[ays.1,ZaQ]
  obtain ⟨Ct,dxt,fst,pst,dvt,spt,t1,t2,t3,t4,rfl,t5⟩:=mt κ H4 sk (hk.same S04);obtain ⟨Cn,dxn,fsn,psn,dvn,spn,e1,e2,e3,e4,rfl,e5⟩:=mc κ H4 sk (hk.same S04);refine ⟨_,rfl,.inl ⟨rfl,_,SqL.of hna⟩,_,rfl,sk,Ct,dxt,fst,pst,_,spt,rfl,t1,t2,t3.mono ∅,t4,_,rfl,_,rfl,sk,Cn,dxn,fsn,psn,_,spn,rfl,e1,e2,e3.mono ∅,e4,_,rfl,e5 H4 (bA^i) (x^i) _ _ (Same.refl _) wi.n wi.p (Q0 wi.l (Q0 (bi i ⋯) ∅)) wi.r λv4 H5 S5 n4=>?_⟩;have bx:B1 κ ((Rg.qz m (ent (ZhM x A))).c i):=ZhP (ZoJ (λi j=>Zdw qF i j) m m7 i) (qz5 m7 ⋯);refine t5 H5 v v4 _ _ _ S5 (nv4.same S5) n4 bx (Zqc wi (bi i ⋯)) λv6 H6 S6 n6=>?_;have n6:NR κ H6 v6 ((Rg.qz m (ent (ZhM x A))).c i*Fd.inv (x^i)):=n6;rw[en] at n6;have S46:=S5.trans S6;have hn6:=S46 _ _ hna;refine ⟨na,_,_,rfl,rfl,hn6,Q8 (show ys.length<1000 by omega) ∅,?_⟩;have Of:Off [na] H6 (upd H6 na (.lst (ys++[v6]))):=ZaZ (Same.refl H6);have ay2:AllG (NR κ (upd H6 na (.lst (ys++[v6])))) (ys++[v6]) (coL (Rg.qz m (ent A)) (i+1)):=by
   rw[Zg1];exact (ays.mono λ_ _ n=>(n.same S46).off hn6 Of).append (.one (n6.off hn6 Of))
  have O7:Off [na] H3 (upd H6 na (.lst (ys++[v6]))):=λb o hb q=>Of b o hb (S46 _ _ (O4 b o hb q));have htp7:upd H6 na (.lst (ys++[v6])) tp=some (.tup [.ref D',.int bA]):=by
   rw[Zau (λz=>by rw[z,nna] at htp;cases htp)];exact S46 _ _ (S14 _ _ htp)
  have hn7:=Zaf (H:=H6) (a:=na) (o:=.lst (ys++[v6]));generalize upd H6 na (.lst (ys++[v6]))=H7 at *;refine ⟨_,rfl,_,rfl,tp,_,1,_,rfl,rfl,SqT.of htp7,rfl,_,_,rfl,rfl,ZrF (Q0 wi.l (Q0 (bi i ⋯) ∅)) (Q0 wx.l (Q0 lD ∅)),?_⟩;exact ⟨some v,_,by rw[Int.pow_succ];rfl,O7,hn7,ay2⟩
 ·rintro σ H4 ⟨z5,ys,rfl,O4,hna,ays⟩;rw[lz] at ays;have S14:Same H1 H4:=Off.same O4 S13 (λz hz=>by rw[Q6.mp hz];exact nna);refine ⟨_,rfl,na,_,rfl,SqL.of hna,λp np=>?_⟩;have Sp:=Zag np (.lst ys.reverse);refine k _ p ys.reverse ((S1.trans S14).trans Sp) ?_ Zaf ?_
  ·cases e:H p with
   |none=>rfl
   |some o=>rw[(S1.trans S14) _ _ e] at np;cases np
  ·have:=Zg4 (ays.mono λ_ _ n=>n.same Sp);rw[ZiF] at this;exact this
end
end My
namespace My.Rg
section
variable{α:Type}[Lean.Grind.CommRing α]
def im(a:Nat->Nat->α)(m:Nat)(v:Nat->α):Nat->Nat->α
 |0=>v
 |k+1=>λi=>Sg (λj=>a i j*im a m v k j) m
def Vz(a:Nat->Nat->α)(m:Nat)(v:Nat->α)(i:Nat):Ps α:=⟨λk=>im a m v k i⟩
theorem Zqd(a:Nat->Nat->α){m:Nat}(v:Nat->α){i:Nat}(hi:i<m):Sg (λj=>Vz a m v j*unz a i j) m=Ps.con (v i):=Ps.ext λn=>by
 rw[Ps.c_Sg];have e:∀j,(Vz a m v j*unz a i j).c n=im a m v n j*(if i=j then 1 else 0)+(if n=0 then 0 else im a m v (n-1) j*(0-a i j)):=λj=>by
  unfold unz;rw[Zg0];show im a m v n j*(if j=i then 1 else 0)+_=_
  by_cases q:i=j
  ·rw[if_pos q,if_pos q.symm];rfl
  ·rw[if_neg q,if_neg (λz=>q z.symm)];rfl
 rw[Sg_congr λj _=>e j,<-Sg_add,Sg_one,if_pos hi]
 cases n with
 |zero =>
  rw[Sg_congr (g:=λ_=>(0:α)) λj _=>by rw[if_pos rfl],Sg_zero];show v i+0=if 0=0 then v i else 0
  rw[if_pos rfl];grind
 |succ n =>
  rw[Sg_congr (g:=λj=>(0-1)*(a i j*im a m v n j)) λj _=>by rw[if_neg ⋯];show im a m v n j*(0-a i j)=_;grind,<-Sg_mul];show Sg (λj=>a i j*im a m v n j) m+_=if n+1=0 then v i else 0
  rw[if_neg ⋯];grind
theorem Zjt{m:Nat}{B:Nat->Nat->α}{V:Nat->α}{r:Nat}(hr:r<m):∀k,k<=m->det m (Zbn B r λj=>Sg (λi=>V i*B i j) k)=if r<k then V r*det m B else 0
  | 0,_=>by
    rw[if_neg ⋯];have:=Zjk (a:=B) (r:=r) 0 hr;have e:(λj=>(0:α)*B r j)=λj=>Sg (λi=>V i*B i j) 0:=by
      funext j; show (0:α)*B r j=0; grind
    rw[e] at this;rw[this]; grind
  | k+1,hk=>by
    have l:=Zew (a:=B) (r:=r) (λj=>Sg (λi=>V i*B i j) k) (B k) (V k) hr;have e:det m (Zbn B r λj=>Sg (λi=>V i*B i j) (k+1))=det m (Zbn B r λj=>Sg (λi=>V i*B i j) k+V k*B k j):=rfl;rw[e,l,Zjt hr k ⋯]
    by_cases q:r=k
    · rw[if_neg ⋯,if_pos ⋯,<-q,Zcu]; grind
    · have z:det m (Zbn B r (B k))=0:=by
        refine Zjj hr (show k<m by omega) q λj=>?_;unfold Zbn;rw[if_pos rfl,if_neg (λz=>q z.symm)]
      rw[z]
      by_cases q2:r<k
      · rw[if_pos q2,if_pos ⋯]; grind
      · rw[if_neg q2,if_neg ⋯]; grind
theorem Zj7(x:α):Ps.con x=lin x 0:=Ps.ext λn=>by
 show (if n=0 then x else 0)=if n=0 then x else if n=1 then 0 else 0
 split
 ·rfl
 ·split <;> rfl
theorem ZnT{a:Nat->Nat->α}{m:Nat}{v:Nat->α}{r:Nat}(hr:r<m){n:Nat}(hn:m<=n):(Vz a m v r*qz m a).c n=0:=by
 have c:=Zjt (B:=λi j=>unz a j i) (V:=Vz a m v) hr m (Q3 _);rw[if_pos hr,show det m (λi j=>unz a j i)=det m (unz a) from Zgh] at c;have e:det m (Zbn (λi j=>unz a j i) r λj=>Sg (λi=>Vz a m v i*unz a j i) m)=det m (λi j=>lin (if i=r then v j else if i=j then 1 else 0) (if i=r then 0 else 0-a j i)):=Zba λi j hi hj=>by
  unfold Zbn
  by_cases q:i=r
  ·rw[if_pos q,if_pos q,if_pos q];show Sg (λi=>Vz a m v i*unz a j i) m=_;rw[Zqd a v hj,Zj7]
  ·rw[if_neg q,if_neg q,if_neg q];rfl
 rw[e] at c;show (Vz a m v r*det m (unz a)).c n=0;rw[<-c];have d:=ZfG m (λi j=>if i=r then v j else if i=j then 1 else 0) (λi j=>if i=r then 0 else 0-a j i)
 by_cases q:m<n
 ·exact d.1 n q
 ·have:n=m:=⋯;rw[this,d.2];have s:=Zjk (a:=λi j=>if i=r then (0:α) else 0-a j i) (r:=r) 0 hr;have e2:Zbn (λi j=>if i=r then (0:α) else 0-a j i) r (λj=>(0:α)*if r=r then (0:α) else 0-a j r)=λi j=>if i=r then (0:α) else 0-a j i:=by
   funext i j
   unfold Zbn
   by_cases q:i=r
   ·rw[if_pos q,if_pos q];grind
   ·rw[if_neg q]
  rw[e2] at s;rw[s];grind
theorem qz_c0(m:Nat)(a:Nat->Nat->α):(qz m a).c 0=1:=by
 have:=chi_qz (n:=m) (a:=a) (k:=m) (Q3 _);rw[ZoL,Wq] at this;exact this.symm
theorem ZoT{S q:Ps α}(h0:q.c 0=1)(h:∀n,(S*q).c n=0):∀n,S.c n=0:=λn=>by
 induction n using Nat.strongRecOn with
 |ind n ih =>
  have e:=h n;rw[Ps.c_mul] at e;have e:Sg (λi=>S.c i*q.c (n-i)) n+S.c n*q.c (n-n)=0:=e;rw[Sg_congr (g:=λ_=>(0:α)) λi hi=>by rw[ih i hi];grind,Sg_zero,Wq,h0] at e;grind
theorem Zqe{S q:Ps α}{m:Nat}(h:∀n,n<m->S.c n=0):∀n,n<m->(S*q).c n=0:=λn hn=>by
 rw[Ps.c_mul,Sg_congr (g:=λ_=>(0:α)) λi hi=>by rw[h i ⋯];grind,Sg_zero]
def pS(a:Nat->Nat->α)(m:Nat)(v u:Nat->α):Ps α:=Sg (λr=>Ps.con (u r)*Vz a m v r) m
theorem ZrO(a:Nat->Nat->α)(m:Nat)(v u:Nat->α)(k:Nat):(pS a m v u).c k=Sg (λr=>im a m v k r*u r) m:=by
 unfold pS;rw[Ps.c_Sg];refine Sg_congr λr _=>?_;rw[show (Ps.con (u r)*Vz a m v r).c k=u r*(Vz a m v r).c k from Ps.con_mul _ _ _];show u r*im a m v k r=_;grind
theorem Zsu(a:Nat->Nat->α)(m:Nat)(v u:Nat->α)(t:Nat):(pS a m v u*qz m a).c t=Sg (λr=>(Vz a m v r*qz m a).c t*u r) m:=by
 have e:pS a m v u*qz m a=Sg (λr=>Ps.con (u r)*(Vz a m v r*qz m a)) m:=by
  unfold pS;have:∀(f:Nat->Ps α) (q:Ps α) (n:Nat),Sg f n*q=Sg (λr=>f r*q) n:=λf q n=>by
   have:=Sg_mul q f n;rw[show Sg f n*q=q*Sg f n by grind,this];exact Sg_congr λi _=>by grind
  rw[this];exact Sg_congr λr _=>by grind
 rw[e,Ps.c_Sg];refine Sg_congr λr _=>?_;rw[show (Ps.con (u r)*(Vz a m v r*qz m a)).c t=u r*(Vz a m v r*qz m a).c t from Ps.con_mul _ _ _];grind
def Nl(a:Nat->Nat->α)(m:Nat)(v u:Nat->α):Prop:=∀k,Sg (λr=>im a m v k r*u r) m=0
theorem Zsv{a:Nat->Nat->α}{m:Nat}{v u:Nat->α}(h:∀t,t<m->(pS a m v u*qz m a).c t=0):Nl a m v u:=λk=>by
 rw[<-ZrO];refine ZoT (qz_c0 m a) (λn=>?_) k
 by_cases q:n<m
 ·exact h n q
 ·rw[Zsu,Sg_congr (g:=λ_=>(0:α)) λr hr=>by rw[ZnT hr ⋯];grind,Sg_zero]
theorem nl_low{a:Nat->Nat->α}{m:Nat}{v u:Nat->α}(h:∀k,k<m->Sg (λr=>im a m v k r*u r) m=0):Nl a m v u :=
 Zsv λt ht=>Zqe (m:=m) (λn hn=>by rw[ZrO];exact h n hn) t ht
theorem climb0(a:Nat->Nat->α)(m:Nat)(v:Nat->α)(r:Nat):(Vz a m v r*qz m a).c 0=v r:=by
 rw[Ps.c_mul];show 0+im a m v 0 r*(qz m a).c (0-0)=v r;rw[Wq,qz_c0];show 0+v r*1=v r;grind
theorem climbS(a:Nat->Nat->α)(m:Nat)(v:Nat->α)(r t:Nat):(Vz a m v r*qz m a).c (t+1)=Sg (λj=>a r j*(Vz a m v j*qz m a).c t) m+(qz m a).c (t+1)*v r:=by
 rw[Ps.c_mul,ZbY];have e:Sg (λi=>(Vz a m v r).c (i+1)*(qz m a).c (t+1-(i+1))) (t+1)=Sg (λj=>a r j*(Vz a m v j*qz m a).c t) m:=by
  have e1:∀i,(Vz a m v r).c (i+1)*(qz m a).c (t+1-(i+1))=Sg (λj=>a r j*im a m v i j*(qz m a).c (t-i)) m:=λi=>by
   rw[show t+1-(i+1)=t-i by omega];show Sg (λj=>a r j*im a m v i j) m*(qz m a).c (t-i)=_;have:=Sg_mul ((qz m a).c (t-i)) (λj=>a r j*im a m v i j) m;rw[show Sg (λj=>a r j*im a m v i j) m*(qz m a).c (t-i)=(qz m a).c (t-i)*Sg (λj=>a r j*im a m v i j) m by grind,this];exact Sg_congr λj _=>by grind
  rw[Sg_congr λi _=>e1 i,Sg_comm];refine Sg_congr λj _=>?_;rw[Ps.c_mul,Sg_mul];exact Sg_congr λi _=>by show a r j*im a m v i j*_=a r j*(im a m v i j*_);grind
 rw[e,Uz];show v r*(qz m a).c (t+1)+_=_;grind
end
end My.Rg
namespace My
open PySem L2 PyProof.Rows
section
variable{κ:KX}
theorem ZfI(f u:Nat->κ.F):∀m,Zcp f u m=Rg.Sg (λj=>f j*u j) m
 |0=>rfl
 |m+1=>by show Zcp f u m+f m*u m=_;rw[ZfI f u m];rfl
theorem Zgi{f g u:Nat->κ.F}{m:Nat}(h:∀j,j<m->f j=g j):Zcp f u m=Zcp g u m:=by
 rw[ZfI,ZfI];exact Rg.Sg_congr λj hj=>by rw[h j hj]
theorem Zcl(g:Nat->κ.F)(m:Nat):((List.range m).map g).length=m:=by rw[Q2,Qs]
theorem Zbb(g:Nat->κ.F){m j:Nat}(h:j<m):((List.range m).map g).getD j 0=g j:=by
 rw[Q1,Qb,Wf h];rfl
theorem Zce{f g:ZZlk κ}(l:f.length=g.length)(h:∀j,j<f.length->f.getD j 0=g.getD j 0):f=g:=by
 refine List.ext_getElem l λj a b=>?_;have:=h j a;rw[Q1,Q1,Q4 a,Q4 b] at this;exact this
noncomputable abbrev vF(v:ZZlk κ):Nat->κ.F:=λi=>v.getD i 0
noncomputable def Zqf(R:ZZll κ)(c:ZZlk κ):ZZlk κ:=R.map λr=>Zf1 r c c.length
noncomputable def imL(A:ZZll κ)(m:Nat)(v:ZZlk κ)(k:Nat):ZZlk κ:=(List.range m).map (Rg.im (ent A) m (vF v) k)
noncomputable def wL(A:ZZll κ)(m:Nat)(v:ZZlk κ)(t:Nat):ZZlk κ:=(List.range m).map λr=>(Rg.Vz (ent A) m (vF v) r*Rg.qz m (ent A)).c t
theorem Zdd(A:ZZll κ)(m:Nat)(v:ZZlk κ)(k:Nat):(imL A m v k).length=m:=Zcl _ _
theorem Zgj(A:ZZll κ)(m:Nat)(v:ZZlk κ)(k:Nat):(wL A m v k).length=m:=Zcl _ _
theorem Zrh{A:ZZll κ}{m:Nat}{v:ZZlk κ}(h:v.length=m):imL A m v 0=v:=Zce (by rw[Zdd,h]) λj hj=>by
 rw[Zdd] at hj;exact Zbb _ hj
theorem Ze4{A:ZZll κ}{i:Nat}(hi:i<A.length)(j:Nat):ent A i j=(A[i]).getD j 0:=by
 unfold ent;rw[Q1 (l:=A),Q4 hi];rfl
theorem ZmY{A:ZZll κ}{c:ZZlk κ}{i:Nat}(hi:i<A.length):(Zqf A c).getD i 0=Rg.Sg (λj=>ent A i j*c.getD j 0) c.length:=by
 unfold Zqf;rw[Q1,Qb,Q4 hi];show Zf1 A[i] c c.length=_;rw[Zey];exact Rg.Sg_congr λj _=>by rw[Ze4 hi]
theorem ZmZ(A:ZZll κ)(c:ZZlk κ):(Zqf A c).length=A.length:=Q2 ..
theorem Zm0{A:ZZll κ}{m:Nat}(hA:A.length=m)(v:ZZlk κ)(k:Nat):imL A m v (k+1)=Zqf A (imL A m v k):=Zce (by rw[Zdd,ZmZ,hA]) λj hj=>by
 rw[Zdd] at hj;rw[ZmY ⋯,Zdd];refine (Zbb _ hj).trans ?_;show Rg.Sg (λi=>ent A j i*Rg.im (ent A) m (vF v) k i) m=_;exact Rg.Sg_congr λi hi=>by rw[show (imL A m v k).getD i 0=Rg.im (ent A) m (vF v) k i from Zbb _ hi]
theorem Zsw{A:ZZll κ}{m:Nat}{v:ZZlk κ}(h:v.length=m):wL A m v 0=v:=Zce (by rw[Zgj,h]) λj hj=>by
 rw[Zgj] at hj;exact (Zbb _ hj).trans (Rg.climb0 _ _ _ _)
theorem ZoU{A:ZZll κ}{m:Nat}{v:ZZlk κ}(hA:A.length=m)(w:Wid m A)(hv:v.length=m)(t:Nat):wL A m v (t+1)=List.zipWith (· + ·) (A.map λr=>ZfC r (wL A m v t)) (v.map ((Rg.qz m (ent A)).c (t+1) * ·)):=by
 refine Zce (by rw[Zgj,Wx,Q2,Q2];omega) λj hj=>?_;rw[Zgj] at hj;refine (Zbb _ hj).trans ((Rg.climbS _ _ _ _ _).trans ?_);rw[Q1,List.getElem?_zipWith,Qb,Qb,Q4 (show j<A.length by omega),Q4 (show j<v.length by omega)];show _=ZfC A[j] (wL A m v t)+(Rg.qz m (ent A)).c (t+1)*v[j];have e:vF v j=v[j]:=by
  show v.getD j 0=_;rw[Q1,Q4 ⋯];rfl
 rw[e]
 congr 1
 unfold ZfC;rw[Zey,w _ (Ql _)];refine Rg.Sg_congr λi hi=>?_;rw[Ze4 (show j<A.length by omega),show (wL A m v t).getD i 0=_ from Zbb _ hi]
theorem Zgk{R:ZZll κ}{n m:Nat}{ls:List Nat}(h:Ech R n m ls 1)(hn:n=ls.length){w:Nat->κ.F}(ker:∀u,Ker R n m u->Zcp w u m=0):∀j,j<m->w j=Rg.Sg (λk=>w (ls.getD k 0)*ent R k j) ls.length:=by
  intro j hj;have i1:(Fd.inv (1:κ.F))=1:=by
    have:=Fd.mul_inv (1:κ.F) h.x0;grind
  by_cases e:∀k<ls.length,ls.getD k 0≠j
  · obtain ⟨v,v1,v2,v3⟩:=Zlg h e
    have kv:=ker v (Zlh h hj e v1 v2 v3);rw[i1] at v2;have key:∀q,q<=m->Zcp w v q=(if j<q then w j else 0)-Rg.Sg (λk=>(if ls.getD k 0<q then 1 else 0)*(w (ls.getD k 0)*ent R k j)) ls.length:=by
      intro q
      induction q with
      | zero =>
        intro _;rw[if_neg ⋯,Rg.Sg_congr (g:=λ_=>(0:κ.F)) λk _=>by rw[if_neg ⋯]; grind,Rg.Sg_zero];show (0:κ.F)=0-0;grind
      | succ q ih =>
        intro hq;show Zcp w v q+w q*v q=_;rw[ih ⋯]
        by_cases ej:q=j
        · rw[if_neg ⋯,if_pos ⋯,ej,v1]
          have:Rg.Sg (λk=>(if ls.getD k 0<j then (1:κ.F) else 0)*(w (ls.getD k 0)*ent R k j)) ls.length=Rg.Sg (λk=>(if ls.getD k 0<j+1 then (1:κ.F) else 0)*(w (ls.getD k 0)*ent R k j)) ls.length:=Rg.Sg_congr λk hk=>by
            have:=e k hk
            by_cases a:ls.getD k 0<j
            · rw[if_pos a,if_pos ⋯]
            · rw[if_neg a,if_neg ⋯]
          rw[this];grind
        · have e1:(if j<q+1 then w j else 0)=if j<q then w j else 0:=by
            by_cases a:j<q
            · rw[if_pos a,if_pos ⋯]
            · rw[if_neg a,if_neg ⋯]
          rw[e1]
          by_cases el:∀k<ls.length,ls.getD k 0≠q
          · rw[v3 q ej el]
            have:Rg.Sg (λk=>(if ls.getD k 0<q then (1:κ.F) else 0)*(w (ls.getD k 0)*ent R k j)) ls.length=Rg.Sg (λk=>(if ls.getD k 0<q+1 then (1:κ.F) else 0)*(w (ls.getD k 0)*ent R k j)) ls.length:=Rg.Sg_congr λk hk=>by
              have:=el k hk
              by_cases a:ls.getD k 0<q
              · rw[if_pos a,if_pos ⋯]
              · rw[if_neg a,if_neg ⋯]
            rw[this];grind
          · obtain ⟨k0,el⟩:=Classical.not_forall.mp el
            obtain ⟨hk0,el⟩:=Classical.not_forall.mp el;have el:ls.getD k0 0=q:=Classical.not_not.mp el;have vq:v q=0-1*ent R k0 j:=by rw[<-el]; exact v2 k0 hk0
            rw[vq];have:Rg.Sg (λk=>(if ls.getD k 0<q+1 then (1:κ.F) else 0)*(w (ls.getD k 0)*ent R k j)) ls.length=Rg.Sg (λk=>(if ls.getD k 0<q then (1:κ.F) else 0)*(w (ls.getD k 0)*ent R k j)) ls.length+Rg.Sg (λk=>(w q*ent R k j)*(if k0=k then 1 else 0)) ls.length:=by
              rw[Rg.Sg_add];refine Rg.Sg_congr λk hk=>?_
              by_cases ek:k0=k
              · rw[if_pos ek,<-ek,el,if_pos (Nat.lt_succ_self q),if_neg (Wd q)]; grind
              · rw[if_neg ek]
                have:ls.getD k 0≠q:=λz=>by
                  rcases Nat.lt_or_gt_of_ne ek with c | c
                  · have:=h.inc k0 k c hk; omega
                  · have:=h.inc k k0 c hk0; omega
                by_cases a:ls.getD k 0<q
                · rw[if_pos a,if_pos ⋯]; grind
                · rw[if_neg a,if_neg ⋯]; grind
            rw[this,Rg.Sg_one,if_pos hk0];grind
    rw[key m (Q3 _),if_pos hj] at kv;have:Rg.Sg (λk=>(if ls.getD k 0<m then (1:κ.F) else 0)*(w (ls.getD k 0)*ent R k j)) ls.length=Rg.Sg (λk=>w (ls.getD k 0)*ent R k j) ls.length:=Rg.Sg_congr λk hk=>by
      rw[if_pos (h.lt k hk)]; grind
    rw[this] at kv;grind
  · obtain ⟨k0,e⟩:=Classical.not_forall.mp e
    obtain ⟨hk0,e⟩:=Classical.not_forall.mp e;have e:ls.getD k0 0=j:=Classical.not_not.mp e;have:Rg.Sg (λk=>w (ls.getD k 0)*ent R k j) ls.length=Rg.Sg (λk=>w (ls.getD k 0)*(if k0=k then 1 else 0)) ls.length:=Rg.Sg_congr λk hk=>by
      rw[<-e,h.col k0 hk0 k ⋯]
      by_cases a:k=k0
      · rw[if_pos a,if_pos a.symm]
      · rw[if_neg a,if_neg (λz=>a z.symm)]
    rw[this,Rg.Sg_one,if_pos hk0,e]
theorem Zm1{R:ZZll κ}{n m:Nat}{ls:List Nat}{x:κ.F}(h:Ech R n m ls x):Ech (R.take ls.length) ls.length m ls x:=by
 have e:∀i,i<ls.length->∀j,ent (R.take ls.length) i j=ent R i j:=λi hi j=>by
  unfold ent;rw[Q1 (l:=R.take ls.length),We,if_pos hi,<-Q1]
 have le:=h.le;exact ⟨Q3 _,h.lt,h.inc,h.x0,λk hk i hi=>by rw[e i hi];exact h.col k hk i ⋯,λi a b=>⋯,λk hk j hj=>by rw[e k hk];exact h.pre k hk j hj⟩
theorem Zm2{R:ZZll κ}{n m:Nat}{ls:List Nat}{x:κ.F}(h:Ech R n m ls x)(u:Nat->κ.F):Ker (R.take ls.length) ls.length m u↔Ker R n m u:=by
 have e:∀i,i<ls.length->ent (R.take ls.length) i=ent R i:=λi hi=>by
  funext j
  unfold ent;rw[Q1 (l:=R.take ls.length),We,if_pos hi,<-Q1]
 have le:=h.le
 constructor
 ·intro k i hi
  by_cases q:i<ls.length
  ·rw[<-e i q];exact k i q
  ·exact Zd4 λj hj=>by rw[h.low i ⋯ hi j hj];grind
 ·intro k i hi;rw[e i hi];exact k i ⋯
def Nk(A:ZZll κ)(m:Nat)(cs:ZZll κ)(u:Nat->κ.F):Prop:=∀c∈cs,Rg.Nl (ent A) m (vF c) u
structure Rom (A:ZZll κ) (m:Nat) (cs Rw:ZZll κ) (ls:List Nat):Prop where
 e:Ech Rw ls.length m ls 1
 l:Rw.length=ls.length
 w:Wid m Rw
 k:∀u,Ker Rw ls.length m u↔Nk A m cs u
noncomputable def Zsx(A:ZZll κ)(m:Nat)(Rw:ZZll κ)(c:ZZlk κ):ZZll κ:=Rw++(List.range m).map (wL A m c)
theorem ZoV{g:Nat->ZZlk κ}{n i:Nat}(h:i<n):ent ((List.range n).map g) i=λj=>(g i).getD j 0:=by
 funext j
 unfold ent;rw[Q1 (l:=List.map g _),Qb,Wf h];rfl
theorem Rom.within{A:ZZll κ}{m:Nat}{cs Rw:ZZll κ}{ls:List Nat}(h:Rom A m cs Rw ls){w:Nat->κ.F}(ker:∀u,Nk A m cs u->Zcp w u m=0):∀j,j<m->w j=Rg.Sg (λk=>w (ls.getD k 0)*ent Rw k j) ls.length :=
 Zgk h.e rfl λu ku=>ker u ((h.k u).mp ku)
theorem Rom.col{A:ZZll κ}{m:Nat}{cs Rw:ZZll κ}{ls:List Nat}(h:Rom A m cs Rw ls){c:ZZlk κ}(hc:c∈cs):∀j,j<m->c.getD j 0=Rg.Sg (λk=>c.getD (ls.getD k 0) 0*ent Rw k j) ls.length :=
 h.within (w:=vF c) λu ku=>by rw[ZfI];exact ku c hc 0
theorem Rom.rank{A:ZZll κ}{m:Nat}{cs Rw:ZZll κ}{ls:List Nat}(h:Rom A m cs Rw ls){G R':ZZll κ}{n:Nat}{ls':List Nat}(hn:G.length=n)(k1:∀u,Ker R' n m u↔Ker G n m u)(ech:Ech R' n m ls' 1)(g1:∀f∈G,∃c∈cs,∃k,f=imL A m c k)(g2:∀c∈cs,∀k,k<m->imL A m c k∈G):ls'=ls:=by
 refine ZmG ech h.e λu=>?_;have pr:∀c k,Zcp (vF (imL A m c k)) u m=Rg.Sg (λr=>Rg.im (ent A) m (vF c) k r*u r) m:=λc k=>by
  rw[ZfI];exact Rg.Sg_congr λr hr=>by rw[show vF (imL A m c k) r=_ from Zbb _ hr]
 rw[k1 u,h.k u]
 constructor
 ·intro nk i hi;obtain ⟨c,hc,k,e⟩:=g1 _ (Ql (show i<G.length by omega));have:ent G i=vF (imL A m c k):=by funext j;rw[Ze4 ⋯,e]
  rw[this,pr];exact nk c hc k
 ·intro kg c hc;refine Rg.nl_low λk hk=>?_;obtain ⟨i,hi,e⟩:=Uy (g2 c hc k hk);have:ent G i=vF (imL A m c k):=by funext j;rw[Ze4 hi,e]
  have q:=kg i ⋯;rw[this,pr] at q;exact q
theorem Zgl{h:Nat->κ.F}{D:Int}(hD:0<D){M:Nat}:∀k,(∀i,i<k->QN κ D M (h i))->QN κ D (k*M) (Rg.Sg h k)
 |0,_=>QN.zero
 |k+1,e=>by
  rw[Nat.succ_mul];exact QN.add hD (Zgl hD k λi hi=>e i ⋯) (e k ⋯)
theorem Zj8{a:Nat->Nat->κ.F}{v:Nat->κ.F}{m:Nat}(hm:m<=7)(ha:∀i j,QN κ ((12:Nat):Int) 108 (a i j))(hv:∀i,QN κ ((12:Nat):Int) 108 (v i)):∀k i,QN κ ((12^(k+1):Nat):Int) (756^k*108) (Rg.im a m v k i)
 |0,i=>hv i
 |k+1,i=>by
  refine QN.mono (Zgl (D:=((12^(k+2):Nat):Int)) (M:=108*(756^k*108)) (by have:=Qd (n:=k+2) (show 0<12 by decide);omega) m λj _=>?_) ?_
  ·have:=QN.mulN (ha i j) (Zj8 hm ha hv k j)
   rwa [show 12*12^(k+1)=12^(k+2) by rw[Qq 12 (k+1),Wi]] at this
  ·rw[Qq,Wi (756^k) 756,Qz,<-Qz m 108];exact Qp _ ⋯
theorem ZnU{D:Int}{M:Nat}{x:κ.F}(h:QN κ D M x):∀j,QN κ D M (Rg.sgn κ.F j*x)
 |0=>by
  have e:Rg.sgn κ.F 0*x=x:=by show (1:κ.F)*x=x;grind
  rw[e];exact h
 |j+1=>by
  have e:Rg.sgn κ.F (j+1)*x=0-Rg.sgn κ.F j*x:=by show (0-Rg.sgn κ.F j)*x=_;grind
  rw[e];exact (ZnU h j).neg
theorem ZnV:∀(n:Nat) (A B:Nat->Nat->κ.F),n<=7->(∀i j,QN κ ((1:Nat):Int) 1 (A i j))->(∀i j,QN κ ((12:Nat):Int) 108 (B i j))->∀k,QN κ ((12^k:Nat):Int) (763^n) ((Rg.det n λi j=>Rg.lin (A i j) (B i j)).c k)
 |0,A,B,_,hA,hB,k=>by
  show QN κ _ _ ((1:Rg.Ps κ.F).c k);rw[Rg.Ps.c_one]
  by_cases q:k=0
  ·rw[if_pos q,q];exact ZfB
  ·rw[if_neg q];exact QN.zero
 |n+1,A,B,hn,hA,hB,k=>by
  have ih:=λj=>ZnV n (λi k=>A (i+1) (Rg.skip j k)) (λi k=>B (i+1) (Rg.skip j k)) ⋯ (λi k=>hA _ _) (λi k=>hB _ _);show QN κ _ _ ((Rg.Sg (λj=>Rg.sgn (Rg.Ps κ.F) j*Rg.lin (A 0 j) (B 0 j)*Rg.det n (λi k=>Rg.lin (A (i+1) (Rg.skip j k)) (B (i+1) (Rg.skip j k)))) (n+1)).c k);rw[Rg.Ps.c_Sg];have p12:(0:Int)<((12^k:Nat):Int):=by have:=Qd (n:=k) (show 0<12 by decide);omega
  refine QN.mono (Zgl (M:=109*763^n) p12 (n+1) λj _=>?_) ?_
  ·rw[Rg.term_c];refine ZnU ?_ j;have e:109*763^n=763^n+108*763^n:=⋯;rw[e];refine QN.add p12 ?_ ?_
   ·have:=QN.mulN (hA 0 j) (ih j k)
    rwa [Wv,Wv] at this
   ·by_cases q:k=0
    ·rw[if_pos q];exact QN.zero
    ·rw[if_neg q];have:=QN.mulN (hB 0 j) (ih j (k-1))
     rwa [show 12*12^(k-1)=12^k by cases k with|zero=>exact absurd rfl q|succ k=>rw[Qq,Wi,Wc]] at this
  ·rw[Qq,Wi (763^n) 763,<-Qz];exact Qp _ ⋯
theorem Zm3{a:Nat->Nat->κ.F}{m:Nat}(hm:m<=7)(ha:∀i j,QN κ ((12:Nat):Int) 108 (a i j))(k:Nat):QN κ ((12^k:Nat):Int) (763^m) ((Rg.qz m a).c k) :=
 ZnV m _ _ hm (λi j=>by
  by_cases q:j=i
  ·rw[if_pos q];exact ZfB
  ·rw[if_neg q];exact QN.zero) (λi j=>(ha i j).neg) k
theorem Zsy{a:Nat->Nat->κ.F}{v:Nat->κ.F}{m:Nat}(hm:m<=7)(ha:∀i j,QN κ ((12:Nat):Int) 108 (a i j))(hv:∀i,QN κ ((12:Nat):Int) 108 (v i))(r:Nat){t:Nat}(ht:t<=7):QN κ ((12^8:Nat):Int) (10^54) ((Rg.Vz a m v r*Rg.qz m a).c t):=by
 rw[Rg.Ps.c_mul];have p12:∀k,0<12^k:=λk=>Qd ∅;have q:QN κ ((12^(t+1):Nat):Int) ((t+1)*(756^7*108*763^7)) (Rg.Sg (λi=>(Rg.Vz a m v r).c i*(Rg.qz m a).c (t-i)) (t+1)):=by
  refine Zgl (by have:=p12 (t+1);omega) (t+1) λi hi=>?_;have:=QN.mulN (Zj8 hm ha hv i r) (Zm3 hm ha (t-i));rw[<-Wp,show i+1+(t-i)=t+1 by omega] at this;refine QN.mono this (Qm (Qp _ (Q7 ∅ ⋯)) (Q7 ∅ hm))
 have u:=q.upN (p12 (t+1)) (p12 (7-t));rw[<-Wp,show t+1+(7-t)=8 by omega] at u;refine u.mono (Q0 (Qm (Qp _ (show t+1<=8 by omega)) (Q7 ∅ (show 7-t<=7 by omega))) ∅)
theorem ZeD{D:Int}{M:Nat}{f:ZZlk κ}(h:∀x∈f,QN κ D M x)(i:Nat):QN κ D M (f.getD i 0):=by
 by_cases q:i<f.length
 ·rw[Q1,Q4 q];exact h _ (Ql _)
 ·rw[Q1,U3 ⋯];exact QN.zero
theorem ZlF{Pr:κ.F->Prop}{g:Nat->κ.F}{m:Nat}(h:∀i,i<m->Pr (g i)):∀x∈(List.range m).map g,Pr x:=λx hx=>by
 obtain ⟨i,hi,rfl⟩:=W4.mp hx;exact h i (U9.mp hi)
abbrev Q12(κ:KX)(x:κ.F):Prop:=QN κ ((12:Nat):Int) 108 x
theorem Zri{A:ZZll κ}{m:Nat}{v:ZZlk κ}(hm:m<=7)(ha:AllR (Q12 κ) A)(hv:∀x∈v,Q12 κ x){t:Nat}(ht:t<=7):∀x∈wL A m v t,QN κ ((12^8:Nat):Int) (10^54) x :=
 ZlF λr _=>Zsy hm (λi j=>Zdw ha i j) (λi=>ZeD hv i) r ht
theorem Zqg{A:ZZll κ}{m:Nat}{v:ZZlk κ}(hm:m<=7)(ha:AllR (Q12 κ) A)(hv:∀x∈v,Q12 κ x)(k:Nat):∀x∈imL A m v k,QN κ ((12^(k+1):Nat):Int) (756^k*108) x :=
 ZlF λr _=>Zj8 hm (λi j=>Zdw ha i j) (λi=>ZeD hv i) k r
theorem Zrj{A:ZZll κ}{m:Nat}{v:ZZlk κ}(hm:m<=7)(ha:AllR (Q12 κ) A)(hv:∀x∈v,Q12 κ x){k:Nat}(hk:k<3)(i:Nat):QN κ ((1728:Nat):Int) (10^8) (Rg.im (ent A) m (vF v) k i):=by
 have q:=Zj8 hm (λi j=>Zdw ha i j) (λi=>ZeD hv i) k i;have u:=q.upN (Qd ∅) (c:=12^(2-k)) (Qd ∅);rw[<-Wp,show k+1+(2-k)=3 by omega] at u;refine u.mono ?_;obtain rfl|rfl|rfl:k=0\/k=1\/k=2:=⋯
 ·decide
 ·decide
 ·decide
theorem ZlG(zs:List V):ZeL zs none (some (-1))=zs.take (zs.length-1):=by
 unfold ZeL;rw[HT.sIx_none,List.drop_zero,Uz];have:HT.sIx zs.length zs.length (some (-1))=zs.length-1:=by
  simp only[HT.sIx]
  rw[if_pos ∅];omega
 rw[this]
theorem RowsX.take{κ:KX}{H:Hp}{as:ZZla}{R:ZZll κ}(h:RowsX κ H as R)(k:Nat):RowsX κ H (as.take k) (R.take k):=by
 refine ⟨by rw[Qa,Qa,h.1],λi a f ha hf=>?_⟩;rw[We] at ha hf
 by_cases q:i<k
 ·rw[if_pos q] at ha hf;exact h.2 i a f ha hf
 ·rw[if_neg q] at ha;cases ha
noncomputable def Zpi(A:ZZll κ)(m:Nat)(v:ZZlk κ)(i:Nat):ZZlk κ:=match i with
 |0=>List.replicate m 0
 |t+1=>wL A m v t
theorem Zm4(A:ZZll κ)(m:Nat)(v:ZZlk κ):∀i,(Zpi A m v i).length=m
 |0=>Wa ..
 |t+1=>Zgj ..
theorem Zm5{A:ZZll κ}{m:Nat}{v:ZZlk κ}(hA:A.length=m)(w:Wid m A)(hv:v.length=m):∀i,List.zipWith (· + ·) (A.map λr=>ZfC r (Zpi A m v i)) (v.map ((Rg.qz m (ent A)).c i * ·))=wL A m v i
 |0=>by
  rw[Zsw hv];refine Zce (by rw[Wx,Q2,Q2];omega) λj hj=>?_;rw[Wx,Q2,Q2] at hj;have hj2:j<v.length:=⋯;rw[Q1,List.getElem?_zipWith,Qb,Qb,Q4 (show j<A.length by omega),Q4 hj2,Q1,Q4 hj2];show ZfC A[j] (List.replicate m 0)+(Rg.qz m (ent A)).c 0*v[j]=v[j];have z:ZfC A[j] (List.replicate m 0)=0:=by
   unfold ZfC;rw[Zey,Rg.Sg_congr (g:=λ_=>(0:κ.F)) λi _=>?_,Rg.Sg_zero];have:(List.replicate m (0:κ.F)).getD i 0=0:=by
    rw[Q1,Uj]
    split <;> rfl
   rw[this];grind
  rw[z,Rg.qz_c0];grind
 |t+1=>(ZoU hA w hv t).symm
theorem Zqh{A:ZZll κ}{m:Nat}{v:ZZlk κ}(hm:m<=7)(ha:AllR (Q12 κ) A)(hv:∀x∈v,Q12 κ x):∀i,i<=8->∀x∈Zpi A m v i,QN κ ((12^8:Nat):Int) (10^54) x
 |0,_,x,hx=>by
  rw[List.eq_of_mem_replicate hx];exact QN.zero
 |t+1,ht,x,hx=>Zri hm ha hv ⋯ x hx
theorem Zqi{A:ZZll κ}{m:Nat}{f:ZZlk κ}(hm:m<=7)(w:Wid m A)(ha:AllR (Q12 κ) A)(lf:f.length=m){D M:Nat}(d0:0<D)(dl:D<=10^100)(ml:M<=10^100)(hf:∀x∈f,QN κ (D:Int) M x):∀x∈A.map (λr=>ZfC r f),B1 κ x:=λx hx=>by
 obtain ⟨r,hr,rfl⟩:=W4.mp hx;have lr:=w r hr;have q:=Zit (D:=((12:Nat):Int)) (E:=(D:Int)) (W8 ∅ ⋯) (ha r hr) hf r.length (Q3 _) ⋯;rw[<-W1] at q;exact ZcV (Q9 ∅ d0) (Q0 (Qk 12 dl) ∅) (Q0 (Qm (show r.length<=7 by omega) (Qk 108 ml)) ∅) q
theorem Zqj{A:ZZll κ}{m:Nat}{v:ZZlk κ}(hm:m<=7)(ha:AllR (Q12 κ) A)(hv:∀x∈v,Q12 κ x){i:Nat}(hi:i<=8):B1 κ ((Rg.qz m (ent A)).c i)/\(∀x∈v,B1 κ x)/\∀x∈v.map ((Rg.qz m (ent A)).c i * ·),B1 κ x:=by
 have q:=Zm3 hm (λi j=>Zdw ha i j) i;have p:0<12^i:=Qd ∅;have l:12^i<=10^20:=Q0 (Q7 ∅ hi) ∅;have l2:763^m<=10^30:=Q0 (Q7 ∅ hm) ∅;refine ⟨ZcV p (Q0 l ∅) (Q0 l2 ∅) q,λx hx=>ZcV ∅ ∅ ∅ (hv x hx),λx hx=>?_⟩;obtain ⟨y,hy,rfl⟩:=W4.mp hx;exact ZcV (Q9 p ∅) (Q0 (Qp 12 l) ∅) (Q0 (Qp 108 l2) ∅) (QN.mulN q (hv y hy))
theorem ZoW(m:Nat)(a:Nat->Nat->κ.F):(coL (Rg.chi m a) (m+1)).reverse=coL (Rg.qz m a) (m+1):=by
 rw[<-ZiF,List.reverse_reverse]
end
structure ColL (κ:KX) (H:Hp) (a:Addr) (xs:List V) (v:ZZlk κ):Prop where
 l:H a=some (.lst xs)
 al:AllG (NR κ H) xs v
theorem ColL.same{κ:KX}{H H':Hp}{a:Addr}{xs:List V}{v:ZZlk κ}(h:ColL κ H a xs v)(S:Same H H'):ColL κ H' a xs v:=⟨S _ _ h.l,h.al.mono λ_ _ n=>n.same S⟩
inductive ZfJ (CF CR:Addr) (vs:List V) (H:Hp) (Q:VK) (zE:XK):Prop
 |mk (κ:KX) (s a c:Addr) (rs:ZZla) (R:ZZll κ) (xs:List V) (f:ZZlk κ) (D E M N:Nat) (_:vs=[.ref s,.ref a,.ref c]) (_:KdX CF CR κ H s) (_:TabL κ H a rs R f.length) (_:ColL κ H c xs f) (_:AllR (QN κ (D:Int) M) R) (_:(∀x∈f,QN κ (E:Int) N x)) (_:0<D) (_:D<=10^200) (_:0<E) (_:E<=10^200) (_:M<=10^500) (_:N<=10^500) (_:∀(H':Hp) (D:Addr) (ys:List V),Same H H'->H D=none->H' D=some (.lst ys)->AllG (NR κ H') ys (R.map λr=>ZfC r f)->Q (.ref D) H'):ZfJ CF CR vs H Q zE
inductive Zcm (cF:Addr) (vs:List V) (H:Hp) (Q:VK) (E:XK):Prop
 |mk (a c:Addr) (as xs:List V) (_:vs=[.ref a,.ref c]) (_:H a=some (.lst as)) (_:H c=some (.lst xs)) (_:(xs.length=as.length->Q .non H)) (_:(xs.length≠as.length->E (.ref cF) none H)):Zcm cF vs H Q E
inductive ZeE (CF CR:Addr) (vs:List V) (H:Hp) (Q:VK) (zE:XK):Prop
 |mk (κ:KX) (s fa ta ca:Addr) (fs:List V) (rs:ZZla) (A:ZZll κ) (xs:List V) (v:ZZlk κ) (m:Nat) (_:vs=[.ref s,.ref fa,.ref ta,.ref ca]) (_:KdX CF CR κ H s) (_:ColL κ H fa fs (coL (Rg.chi m (ent A)) (m+1))) (_:TabL κ H ta rs A m) (_:A.length=m) (_:m<=7) (_:AllR (Q12 κ) A) (_:ColL κ H ca xs v) (_:v.length=m) (_:(∀x∈v,Q12 κ x)) (_:∀(H':Hp) (D:Addr) (cs:ZZla),Same H H'->H' D=some (.lst (cs.map V.ref))->RowsX κ H' cs ((List.range (m+1)).map (wL A m v))->Q (.ref D) H'):ZeE CF CR vs H Q zE
inductive DvA (κ:KX) (sk fa ga:Addr) (ys:List V) (vb:V) (ra qa_:Addr) (H3:Hp) (F' G:ZZlk κ) (D a E M N:Nat) (t:Nat) (σ:L2.St) (H4:Hp):Prop
 |mk (z7 z8 z9:Option V) (rv qv:List V) (R qs:ZZlk κ) (_:σ=[some (.ref sk),some (.ref fa),some (.ref ga),some (.int ((ys.length:Int)-1)),some vb,some (.ref ra),some (.ref qa_),z7,z8,z9]) (_:Off [ra,qa_] H3 H4) (_:H4 ra=some (.lst rv)) (_:AllG (NR κ H4) rv R) (_:H4 qa_=some (.lst qv)) (_:AllG (NR κ H4) qv qs) (_:Dv F' G t qs R) (_:(∀x∈R,QN κ ((D*(a*E)^t:Nat):Int) (M*(2*(E*N))^t) x)) (_:(∀x∈qs,QN κ ((D*(a*E)^t:Nat):Int) (M*(2*(E*N))^t) x)):DvA κ  sk fa ga  ys  vb  ra qa_  H3  F' G  D a E M N  t σ H4
section
variable{P:Program}{w:World}{K:ZZfg}{mg:ZZmg}{base:Heap}{CF CR cN:Addr}
theorem sc_trimmed:FnScope ["kind","numbers","count"] ["kind","numbers"] (Zah Zfi):=‹2›
theorem Zj9(h:Here K mg "trimmed" Zfi) (T:Nm mg) (mz:ZnA P w K mg base CF CR):Has P w K mg base "trimmed" 3 ["kind","numbers"] (Zb0 CF CR):=by
 refine h.has (λ_ _ F=>F.b2 λ_ _ _ _ _ _ _ _=>rfl) λf fd F=>F.ok sc_trimmed (λvs H Q E h=>?_) (λcdv A outer s H vs Q E hr h=>?_)
 ·obtain ⟨_,_,_,_,_,rfl,_⟩:=h
  rfl
 obtain ⟨κ,sk,a,xs,g,rfl,hk,ha,al,k⟩:=h;have nd:=sc_trimmed.nd;refine ⟨_,(Zac (Zak (i:=2) nd rfl (Or.inl rfl) (Zaj Zai (by rfl) T.len boot_len (Zaa (pv 1) Zab)))
  (Zac (Zbq PassesOwn.never (Zkj (Zar ZfR (pv 2) Zad (Zav _)) (Zh3 (ZaF (Zaz (pv 0) hr (Zaa (Zao Zap (pv 1) (Zan Zbe (pv 2) Zad) (λ_ _=>rfl)) Zab))))).pt (Zae (ZiZ (i:=2) nd rfl (Or.inl rfl) Zad Zpr)))
  (Zae (Zal (ZaS Zbg (pv 1) Zbr (Za5 (pv 2))))))),?_⟩
 have lx:=al.1;obtain ⟨Cz,dxz,fsz,psz,dvz,spz,c1,c2,c3,c4,rfl,c5⟩:=mz κ H sk hk;refine ⟨_,rfl,a,_,rfl,.inl (SqL.of ha),?_⟩;refine ⟨λmm σ H'=>∃r:Int,mm=r.toNat/\σ=[some (.ref sk),some (.ref a),some (.int r)]/\H'=H/\0<=r/\r<=g.length/\(∀j:Nat,r<=j->g.getD j 0=0),⟨_,(xs.length:Int),rfl,rfl,rfl,⋯,⋯,λj hj=>Zas ⋯⟩,?_⟩;rintro mm σ H' ⟨r,rfl,rfl,rfl,r0,hr',h0⟩;have fin:(r=0\/g.getD (r.toNat-1) 0≠0)->∀p,H' p=none->Q (.ref p) (upd H' p (.lst (ZeL xs none (some r)))):=λz p np=>by
  have e:=Zda xs r.toNat;rw[show ((r.toNat:Nat):Int)=r by omega] at e;rw[e];exact k _ p r.toNat (Zag np _) np Zaf ⋯ (λj hj=>h0 j ⋯) (z.imp (λz=>⋯) id)
 refine ⟨_,rfl,_,_,rfl,rfl,_,rfl,?_⟩;refine Za8 (λz=>?_) (λz=>?_)
 ·have z:(0:Int)<r:=z;obtain ⟨v,hv,nv⟩:=Za1 al (i:=r.toNat-1) ⋯;refine ⟨_,rfl,sk,Cz,dxz,fsz,psz,_,spz,rfl,c1,c2,c3.mono ∅,c4,_,rfl,_,rfl,_,_,rfl,rfl,a,_,_,v,rfl,rfl,SqL.of ha,(by rw[show r-1=((r.toNat-1:Nat):Int) by omega];exact ZaK hv),c5 v _ _ nv λb hb=>⟨_,rfl,?_⟩⟩
  cases b with
  |true =>
   have gz:=hb.mp rfl;refine ZjK ⟨_,λ_ _ h=>h,?_⟩;refine ⟨_,rfl,r,1,rfl,rfl,?_⟩;refine ⟨(r-1).toNat,⋯,r-1,rfl,rfl,rfl,⋯,⋯,λj hj=>?_⟩
   by_cases e:j=r.toNat-1
   ·rw[e];exact gz
   ·exact h0 j ⋯
  |false =>
   refine Zdt ?_;exact ⟨_,rfl,_,rfl,r,rfl,a,_,rfl,SqL.of ha,fin (.inr λz=>by have:=hb.mpr z;cases this)⟩
 ·have z:¬(0:Int)<r:=z;exact ⟨_,rfl,_,rfl,r,rfl,a,_,rfl,SqL.of ha,fin (.inl ⋯)⟩
theorem sc_divided:FnScope ["kind","f","g","degree","back","rest","quotient","place","factor","above"] ["kind","f","g"] (Zah Zfj):=‹2›
theorem Zka(h:Here K mg "divided" Zfj) (T:Nm mg) (Tr:mg "reversed"=none) (c_NoNumber:ExcC K mg "NoNumber" cN) (mb:Zd3 P w K mg base CF CR) (mt:ZfV P w K mg base CF CR "times" (λ_ x y=>x*y)) (mm:ZmB P w K mg base CF CR) (h_trimmed:Has P w K mg base "trimmed" 4 ["kind","numbers"] (Zb0 CF CR)):HasX P w K mg base "divided" 5 ["kind","f","g"] (ZeC CF CR cN):=by
 refine h.hasX (λ_ _ F=>F.b3 λ_ _ _ _ _ _ _ _ _=>rfl) λf fd F=>F.okx sc_divided (λvs H Q E h=>?_) (λcdv A outer s H vs Q Ee hr h=>?_)
 ·obtain ⟨_,_,_,_,_,_,_,_,_,_,_,_,rfl,_⟩:=h
  rfl
 obtain ⟨κ,sk,fa,ga,xs,ys,F',G,D,E,M,N,rfl,hk,hF,aF,hG,aG,di,kE,k⟩:=h;have nd:=sc_divided.nd;refine ⟨_,(Zac (ZaB (Zar Zby (Zaj Zai (by rfl) T.len boot_len (Zaa (pv 2) Zab)) Zad (Zav _)) (Zae (Zca c_NoNumber ZeP rfl (by rfl) (Zaa ZeK Zab))) Zat)
  (Zac (Zak (i:=3) nd rfl (Or.inl rfl) (Zan Zbe (Zaj Zai (by rfl) T.len boot_len (Zaa (pv 2) Zab)) Zad))
  (Zac (Zak (i:=4) nd rfl (Or.inl rfl) (ZaI (pv 0) Zcr hr (Zaa (Zao Zap (pv 2) (Zds ZbT Zad) (λ_ _=>rfl)) Zab)))
  (Zac (Zak (i:=5) nd rfl (Or.inl rfl) (Zcq Zb7 (by rfl) T.list boot_list (Zaa (pv 1) Zab)))
  (Zac (Zak (i:=6) nd rfl (Or.inl rfl) (ZaN Zab))
  (Zac (Za2 PassesOwn.leaving rfl (Zll (by rfl) T.range (Zaa (Zan Zbe (Zaj Zai (by rfl) T.len boot_len (Zaa (pv 1) Zab)) (Zaj Zai (by rfl) T.len boot_len (Zaa (pv 2) Zab))) (Zaa (Zds ZbT Zad) (Zaa (Zds ZbT Zad) Zab)))) (Zaq (i:=7) nd rfl (Or.inl rfl)) (Zac (Zak (i:=8) nd rfl (Or.inl rfl) (Zaz (pv 0) hr (Zaa (Zao Zap (pv 5) (Zan ZaM (pv 7) (pv 3)) (λ_ _=>rfl)) (Zaa (pv 4) Zab))))
   (Zac (Za2 PassesOwn.leaving rfl (ZaE (by rfl) T.range (Zaa (pv 3) Zab)) (Zaq (i:=9) nd rfl (Or.inl rfl)) (Zae (Zhh (Zaz (pv 0) hr (Zaa (Zao Zap (pv 5) (Zan ZaM (pv 7) (pv 9)) (λ_ _=>rfl)) (Zaa (Zaz (pv 0) hr (Zaa (pv 8) (Zaa (Zao Zap (pv 2) (pv 9) (λ_ _=>rfl)) Zab))) Zab))) (Zhg (pv 5) (Zan ZaM (pv 7) (pv 9)) ZdR))))
   (Zae (ZaT (ZeU PySem.F.plainAttrs_list PySem.F.slot_list_append PySem.F.type_list_append Za6 (pv 6) (Zaa (pv 8) Zab)))))))
  (Zae (Zal (ZbU (Zaa (Zeu (by rfl) T.list (by rfl) Tr rfl (Zaa (pv 6) Zab)) (Zaa (Zam h_trimmed hr (by rfl) (Zaa (pv 0) (Zaa (ZaS Zbg (pv 5) Zbr (Za5 (pv 3))) Zab))) Zab))))))))))),?_⟩
 have lx:=aF.1;have ly:=aG.1;have lF:=di.lF;have lG:=di.lG;refine ⟨_,rfl,ga,_,rfl,.inl (SqL.of hG),rfl,_,rfl,?_⟩;refine Zbx (λz=>⟨(by show 1<=1000;decide),kE ⋯⟩) (λz=>?_);have g0:0<G.length:=⋯;obtain ⟨d,hd⟩:∃d,G.length=d+1:=⟨G.length-1,⋯⟩;have hc:G.getD d 0≠0:=by
  rcases di.tG with z|z
  ·omega
  ·rw[hd] at z;exact z
 obtain ⟨vc,hvc,nvc⟩:=Za1 aG (i:=d) ⋯;refine ⟨_,rfl,ga,_,rfl,.inl (SqL.of hG),_,_,rfl,rfl,?_⟩;obtain ⟨Cb,dxb,fsb,psb,dvb,spb,b1,b2,b3,b4,rfl,b5⟩:=mb κ H sk hk;have hat:atI ys (-1)=some vc:=by
  unfold atI;rw[Zjh ⋯];show ys[ys.length-1]?=_;rw[show ys.length-1=d by omega];exact hvc
 refine ⟨_,rfl,sk,Cb,dxb,fsb,psb,_,spb,rfl,b1,b2,b3.mono ∅,b4,_,rfl,_,rfl,ga,_,_,vc,rfl,rfl,SqL.of hG,hat,b5 H vc _ _ _ (Same.refl _) nvc hc λvb H1 S1 nvb=>?_⟩;obtain ⟨a,a0,aN,qa⟩:=ZhS di.e0 di.n0 (di.qG _ (Qc (Zck (show d<G.length by omega)))) hc;refine ⟨_,rfl,fa,xs,rfl,.inl (SqL.of (S1 _ _ hF)),λra nra1=>?_⟩;have Sr:=Zag nra1 (.lst xs);have qr:=Zaf (H:=H1) (a:=ra) (o:=.lst xs);generalize upd H1 ra (.lst xs)=H2 at *;have S2:=S1.trans Sr;have nra:H ra=none:=S1.free nra1;refine ⟨(by show 0<=sizeLine;decide),λqa_ nqa2=>?_⟩;have Sq:=Zag nqa2 (.lst []);have qq:=Zaf (H:=H2) (a:=qa_) (o:=.lst []);have nqr:qa_≠ra:=λz=>by rw[z,qr] at nqa2;cases nqa2
 generalize upd H2 qa_ (.lst [])=H3 at *;have S3:=S2.trans Sq;have nqa:H qa_=none:=S2.free nqa2;have qr3:=Sq _ _ qr;have nvb3:=nvb.same (Sr.trans Sq);generalize hn:F'.length+1-G.length=n at *;have bigD:D*(a*E)^n<2^3000:=Q5 (Zst aN) (by have:=di.bD;rw[hn] at this;exact this);have bigM:M*(2*(E*N))^n<2^3000:=by have:=di.bM;rw[hn] at this;exact this
 have b1of:∀ {t:Nat} {x:κ.F},t<=n->QN κ ((D*(a*E)^t:Nat):Int) (M*(2*(E*N))^t) x->B1 κ x:=by
  intro t x ht hx;have p0:0<D*(a*E)^t:=Q9 di.d0 (Qd (Q9 a0 di.e0));have l1:=Zrc (D:=D) a0 di.e0 ht;have l2:=Zrd (M:=M) di.e0 di.n0 ht;exact hx.b1 ⋯ (by rw[Qj];omega) ⋯
 refine ⟨_,rfl,fa,_,rfl,.inl (SqL.of (S3 _ _ hF)),_,rfl,ga,_,rfl,.inl (SqL.of (S3 _ _ hG)),_,_,rfl,rfl,_,rfl,_,rfl,(xs.length:Int)-(ys.length:Int),-1,rfl,⟨⋯,⋯,⋯,⋯⟩,?_⟩;rw[show ((xs.length:Int)-(ys.length:Int) - -1).toNat=n by omega];refine ZmJ (hi:=(xs.length:Int)-(ys.length:Int)) (n:=n) (λt σ H4=>DvA κ  sk fa ga  ys  vb  ra qa_  H3  F' G  D a E M N  t σ H4) ⟨_,_,_,xs,[],F',[],rfl,λ_ _ _ q=>q,qr3,aF.mono (λ_ _ n=>n.same S3),qq,.nil,Zss F' G,(λx hx=>by have:=di.qF x hx;simpa using this),λx h=>nomatch h⟩ ?_ ?_
 ·rintro t σ H4 ht ⟨z7,z8,z9,rv,qv,R,qs,rfl,O4,hr4,aR,hq4,aq,dv,qR,qQ⟩;obtain ⟨p_,hp_⟩:∃p_:Nat,p_=F'.length-(d+1)-t:=⟨_,rfl⟩;have g4:p_+(d+1)+t=F'.length:=⋯;have S4:Same H H4:=Off.same O4 S3 λz hz=>by
   rcases Qe.mp hz with q|q
   ·rw[q];exact nra
   ·rw[Q6.mp q];exact nqa
  have lR:=dv.lr;have lrv:=aR.1;have lqs:=dv.lq;have lqv:=aq.1;have nb4:NR κ H4 vb (Fd.inv (G.getD d 0)):=by
   refine nvb.same ?_;exact Off.same O4 (Sr.trans Sq) λz hz=>by
    rcases Qe.mp hz with q|q
    ·rw[q];exact nra1
    ·rw[Q6.mp q];exact Sr.free nqa2
  obtain ⟨v,hv,nv⟩:=Za1 aR (i:=p_+d) ⋯;have mR:=Qc (Zck (show p_+d<R.length by omega));have qv0:=qR _ mR;have bR:=b1of ⋯ qv0;have bb:B1 κ (Fd.inv (G.getD d 0)):=qa.b1 ⋯ (by rw[Qj];exact Q5 aN di.bN) di.bE;have gB:∀j,j<G.length->B1 κ (G.getD j 0):=λj hj=>(di.qG _ (Qc (Zck hj))).b1 (by have:=di.e0;omega) (by rw[Qj];exact di.bE) di.bN;have sz:=λ(j:Nat) (hj:j<G.length)=>Zre (M:=M) di.d0 a0 aN di.e0 di.eN qv0 qa (di.qG _ (Qc (Zck hj)));obtain ⟨Ct,dxt,fst,pst,dvt,spt,t1,t2,t3,t4,rfl,t5⟩:=mt κ H4 sk (hk.same S4);have epd:((xs.length:Int)-(ys.length:Int)-(t:Int))+((ys.length:Int)-1)=((p_+d:Nat):Int):=⋯;refine ⟨_,rfl,sk,Ct,dxt,fst,pst,_,spt,rfl,t1,t2,t3.mono ∅,t4,_,rfl,_,rfl,_,rfl,_,_,rfl,rfl,ra,_,_,v,rfl,rfl,SqL.of hr4,(by rw[epd];exact ZaK hv),_,rfl,t5 H4 v vb _ _ _ (Same.refl _) nv nb4 bR bb λvx H5 S5 nx=>?_⟩;have nx:NR κ H5 vx (R.getD (p_+d) 0*Fd.inv (G.getD d 0)):=nx;obtain ⟨x,hx⟩:∃x:κ.F,x=R.getD (p_+d) 0*Fd.inv (G.getD d 0):=⟨_,rfl⟩;rw[<-hx] at nx
  simp only[<-hx] at sz
  have bx:B1 κ x:=b1of (t:=t+1) ⋯ (sz d ⋯).1;have S05:=S4.trans S5;have hr5:=S5 _ _ hr4;refine ⟨_,rfl,(ys.length:Int)-1,rfl,⋯,⋯,?_⟩;rw[show ((ys.length:Int)-1).toNat=d by omega];refine Zbi (lo:=0) (n:=d) (λj σ H6=>∃(z9:Option V) (rv':List V),σ=[some (.ref sk),some (.ref fa),some (.ref ga),some (.int ((ys.length:Int)-1)),some vb,some (.ref ra),some (.ref qa_),some (.int ((xs.length:Int)-(ys.length:Int)-(t:Int))),some vx,z9]/\Off [ra] H5 H6/\H6 ra=some (.lst rv')/\AllG (NR κ H6) rv' (dI G x p_ j R)) ⟨_,rv,rfl,λ_ _ _ q=>q,hr5,(by rw[Zsr];exact aR.mono λ_ _ n=>n.same S5)⟩ ?_ ?_
  ·rintro j σ H6 hj ⟨z9,rv',rfl,O6,hr6,aR6⟩;have S6:Same H H6:=Off.same O6 S05 λz hz=>by rw[Q6.mp hz];exact nra
   have nx6:NR κ H6 vx x:=nx.off hr5 O6;have lr6:=aR6.1;rw[ZeS] at lr6;obtain ⟨vr,hvr,nvr⟩:=Za1 aR6 (i:=p_+j) (by rw[ZeS];omega);have er:(dI G x p_ j R).getD (p_+j) 0=R.getD (p_+j) 0:=by rw[ZlE ⋯,if_neg ⋯]
   obtain ⟨vg,hvg,nvg⟩:=Za1 aG (i:=j) ⋯;have bRj:B1 κ ((dI G x p_ j R).getD (p_+j) 0):=by
    rw[er];exact b1of ⋯ (qR _ (Qc (Zck (show p_+j<R.length by omega))))
   obtain ⟨Cm,dxm,fsm,psm,dvm,spm,m1,m2,m3,m4,rfl,m5⟩:=mm κ H6 sk (hk.same S6);obtain ⟨Cu,dxu,fsu,psu,dvu,spu,u1,u2,u3,u4,rfl,u5⟩:=mt κ H6 sk (hk.same S6);have epj:((xs.length:Int)-(ys.length:Int)-(t:Int))+(0+(j:Int))=((p_+j:Nat):Int):=⋯;refine ⟨_,rfl,sk,Cm,dxm,fsm,psm,_,spm,rfl,m1,m2,m3.mono ∅,m4,_,rfl,_,rfl,_,rfl,_,_,rfl,rfl,ra,_,_,vr,rfl,rfl,SqL.of hr6,(by rw[epj];exact ZaK hvr),_,rfl,sk,Cu,dxu,fsu,psu,_,spu,rfl,u1,u2,u3.mono ∅,u4,_,rfl,_,rfl,_,rfl,ga,_,_,vg,rfl,rfl,SqL.of (S6 _ _ hG),(by rw[Qw];exact ZaK hvg),u5 H6 vx vg _ _ _ (Same.refl _) nx6 (nvg.same S6) bx (gB j ⋯) λvy H7 S7 ny=>?_⟩;have ny:NR κ H7 vy (x*G.getD j 0):=ny;refine m5 H7 vr vy _ _ _ S7 (nvr.same S7) ny bRj (b1of (t:=t+1) ⋯ (sz j ⋯).2.1) λvz H8 S8 nz=>?_;have S68:=S7.trans S8;have hr8:=S68 _ _ hr6;refine ⟨_,rfl,_,rfl,_,rfl,_,_,rfl,rfl,ra,rv',_,_,rfl,rfl,hr8,(by rw[epj];exact Zk8 (Int.natCast_nonneg _) ⋯),?_⟩;rw[Qu];have O9:Off [ra] H8 (upd H8 ra (.lst (rv'.set (p_+j) vz))):=ZaZ (Same.refl H8);refine ⟨_,rv'.set (p_+j) vz,rfl,λb o nb q=>O9 b o nb (S68 _ _ (O6 b o nb q)),Zaf,?_⟩;rw[ZoN ⋯];exact (aR6.mono λ_ _ n=>(n.same S68).off hr8 O9).set _ (nz.off hr8 O9)
  ·rintro σ H6 ⟨z9,rv',rfl,O6,hr6,aR6⟩;have hq6:H6 qa_=some (.lst qv):=O6 _ _ (λz=>nqr (Q6.mp z)) (S5 _ _ hq4);have nx6:NR κ H6 vx x:=nx.off hr5 O6;have aq6:AllG (NR κ H6) qv qs:=aq.mono λ_ _ n=>(n.same S5).off hr5 O6;refine ⟨_,rfl,.inl ⟨rfl,_,SqL.of hq6⟩,_,rfl,qa_,_,_,rfl,rfl,hq6,Q8 (show qv.length<1000 by omega) ∅,?_⟩;have O9:Off [qa_] H6 (upd H6 qa_ (.lst (qv++[vx]))):=ZaZ (Same.refl H6);refine ⟨_,_,_,rv',qv++[vx],dI G x p_ d R,qs++[x],rfl,λb o nb q=>?_,?_,aR6.mono (λ_ _ n=>n.off hq6 O9),Zaf,(aq6.mono λ_ _ n=>n.off hq6 O9).append (.one (nx6.off hq6 O9)),ZoO hd hc g4 dv hx,?_,?_⟩
   ·have n1:b∉[qa_]:=λz=>nb (Wl _ z);have n2:b∉[ra]:=λz=>nb (by rw[Q6.mp z];exact Wj);exact O9 b o n1 (O6 b o n2 (S5 _ _ (O4 b o nb q)))
   ·rw[Zau (Ne.symm nqr)];exact hr6
   ·exact Zrf (λy hy=>((sz d ⋯).2.2 y (qR y hy)).1) λy hy j hj=>((sz j ⋯).2.2 y (qR y hy)).2
   ·intro y hy;rcases Qx.mp hy with q|q
    ·exact ((sz d ⋯).2.2 y (qQ y q)).1
    ·rw[Q6.mp q];exact (sz d ⋯).1
 ·rintro σ H4 ⟨z7,z8,z9,rv,qv,R,qs,rfl,O4,hr4,aR,hq4,aq,dv,qR,qQ⟩;have S4:Same H H4:=Off.same O4 S3 λz hz=>by
   rcases Qe.mp hz with q|q
   ·rw[q];exact nra
   ·rw[Q6.mp q];exact nqa
  refine ⟨_,rfl,qa_,qv,rfl,SqL.of hq4,λlq nlq=>?_⟩;have Sl:=Zag nlq (.lst qv.reverse);have ql:=Zaf (H:=H4) (a:=lq) (o:=.lst qv.reverse);generalize upd H4 lq (.lst qv.reverse)=H5 at *;refine ⟨_,rfl,_,rfl,_,rfl,(ys.length:Int)-1,rfl,ra,_,rfl,SqL.of (Sl _ _ hr4),λsl nsl=>?_⟩;have ec:ZeL rv none (some ((ys.length:Int)-1))=rv.take d:=by
   have e:=Zda rv d;rw[show (ys.length:Int)-1=(d:Int) by omega];exact e
  rw[ec];have Ss:=Zag nsl (.lst (rv.take d));have qs':=Zaf (H:=H5) (a:=sl) (o:=.lst (rv.take d));generalize upd H5 sl (.lst (rv.take d))=H6 at *;have S46:=Sl.trans Ss;refine ⟨κ,sk,sl,rv.take d,R.take d,rfl,hk.same (S4.trans S46),qs',Zbv (aR.mono λ_ _ n=>n.same S46) d,λH7 Dd r S7 nD hD lr r0 r1=>?_⟩;refine ⟨(by show 2<=sizeLine;decide),λtp ntp=>?_⟩;have St:=Zag ntp (.tup [.ref lq,.ref Dd]);have S47:=(S46.trans S7).trans St;have ed:G.length-1=d:=⋯;have nlD:lq≠Dd:=λz=>by rw[<-z,Ss _ _ ql] at nD;cases nD
  refine k g0 _ tp lq Dd qv.reverse ((rv.take d).take r) qs R a r (S4.trans S47) Zaf (St _ _ (S7 _ _ (Ss _ _ ql))) (St _ _ hD) (Zg4 (aq.mono λ_ _ n=>n.same S47)) ?_ ⟨?_,?_,?_,?_,a0,aN,?_,?_⟩ (S4.free nlq) ((S4.trans S46).free nD) nlD
  ·rw[ed];exact Zbv (Zbv (aR.mono λ_ _ n=>n.same S47) d) r
  ·rw[hn];exact dv
  ·rw[ed];exact lr
  ·rw[ed];exact r0
  ·rw[ed];exact r1
  ·rw[hn];exact qQ
  ·rw[hn];exact qR
end
section
variable{κ:KX}
abbrev Sr(κ:KX):Type:=Rg.Ps κ.F
noncomputable def sr(F:ZZlk κ):Sr κ:=⟨λk=>F.getD k 0⟩
theorem ZbZ(F:ZZlk κ)(k:Nat):(sr F).c k=F.getD k 0:=rfl
theorem ZnW:sr ([]:ZZlk κ)=0:=Rg.Ps.ext λk=>by rw[Rg.Ps.c_zero];rfl
noncomputable def cn(x:κ.F):Sr κ:=sr [x]
theorem ZqD(x:κ.F)(k:Nat):(cn x).c k=if k=0 then x else 0:=by
 cases k with
 |zero=>rfl
 |succ k=>rfl
theorem ZlH(x:κ.F):cn x=Rg.Ps.con x:=Rg.Ps.ext λk=>by rw[ZqD];rfl
theorem ZfK(x:κ.F)(a:Sr κ)(k:Nat):(cn x*a).c k=x*a.c k:=by rw[ZlH];exact Rg.Ps.con_mul x a k
theorem Zju:cn (1:κ.F)=1:=by rw[ZlH];rfl
theorem Zqk(x y:κ.F):cn x*cn y=cn (x*y):=Rg.Ps.ext λk=>by
 rw[ZfK,ZqD,ZqD]
 split
 ·rfl
 ·grind
theorem Zjv{x:κ.F}(h:x≠0):cn (Fd.inv x)*cn x=1:=by
 rw[Zqk,show Fd.inv x*x=1 by have:=Fd.mul_inv x h;grind,Zju]
theorem Zd9{h:Nat->κ.F}{n:Nat}:∀d,(∀i,n<=i->h i=0)->Rg.Sg h (n+d)=Rg.Sg h n
 |0,_=>rfl
 |d+1,e=>by
  show Rg.Sg h (n+d)+h (n+d)=_;rw[Zd9 d e,e (n+d) ⋯];generalize Rg.Sg h n=s;grind
theorem ZlI{F G:ZZlk κ}{k:Nat}:∀n,pO F G n k=Rg.Sg (λi=>F.getD i 0*gs G i k) n
 |0=>rfl
 |n+1=>by
  show pO F G n k+pI F G n G.length k=Rg.Sg _ n+_;rw[ZlI n,ZmU]
theorem ZhU(F G:ZZlk κ)(k:Nat):(sr F*sr G).c k=pO F G F.length k:=by
  rw[ZlI,Rg.Ps.c_mul];have e1:=Zd9 (h:=λi=>F.getD i 0*gs G i k) (n:=F.length) (k+1-F.length) λi hi=>by
    show F.getD i 0*_=0;rw[Zas hi]; grind
  have e2:Rg.Sg (λi=>F.getD i 0*gs G i k) (k+1)=Rg.Sg (λi=>(sr F).c i*(sr G).c (k-i)) (k+1):=Rg.Sg_congr λi hi=>by
    show F.getD i 0*gs G i k=F.getD i 0*G.getD (k-i) 0;unfold gs;rw[if_pos ⋯]
  rw[<-e2]
  by_cases h:F.length<=k+1
  · rw[<-e1,show F.length+(k+1-F.length)=k+1 by omega]
  · have e3:=Zd9 (h:=λi=>F.getD i 0*gs G i k) (n:=k+1) (F.length-(k+1)) λi hi=>by
      show F.getD i 0*gs G i k=0;unfold gs;rw[if_neg ⋯]; grind
    rw[<-e3,show k+1+(F.length-(k+1))=F.length by omega]
def Fs(a:Sr κ):Prop:=∃N,∀k,N<=k->a.c k=0
theorem Fs.sr(F:ZZlk κ):Fs (sr F):=⟨F.length,λk h=>by rw[ZbZ];exact Zas h⟩
theorem Fs.cn(x:κ.F):Fs (cn x):=Fs.sr [x]
theorem Fs.zero:Fs (0:Sr κ):=⟨0,λk _=>Rg.Ps.c_zero k⟩
theorem Fs.one:Fs (1:Sr κ):=by rw[<-Zju];exact Fs.cn 1
theorem Fs.add{a b:Sr κ}(h:Fs a)(g:Fs b):Fs (a+b):=by
 obtain ⟨N,h⟩:=h;obtain ⟨M,g⟩:=g;exact ⟨N+M,λk hk=>by rw[Rg.Ps.c_add,h k ⋯,g k ⋯];grind⟩
theorem Fs.mul{a b:Sr κ}(h:Fs a)(g:Fs b):Fs (a*b):=by
 obtain ⟨N,h⟩:=h;obtain ⟨M,g⟩:=g;refine ⟨N+M,λk hk=>?_⟩;rw[Rg.Ps.c_mul,Rg.Sg_congr (g:=λ_=>0) λi hi=>?_,Rg.Sg_zero]
 by_cases q:N<=i
 ·rw[h i q];grind
 ·rw[g (k-i) ⋯];grind
theorem Fs.sub{a b:Sr κ}(h:Fs a)(g:Fs b):Fs (a-b):=by
 obtain ⟨N,h⟩:=h;obtain ⟨M,g⟩:=g;exact ⟨N+M,λk hk=>by rw[Rg.Ps.c_sub,h k ⋯,g k ⋯];grind⟩
theorem ZfL{m:Nat}{d R:ZZlk κ}{e:Sr κ}(ld:d.length=m+1)(top:d.getD m 0=1)(lR:R.length<=m)(fe:Fs e)(h:sr R=e*sr d):sr R=0:=by
 obtain ⟨N,hN⟩:=fe;have z:∀n,(∀k,n<=k->e.c k=0)->∀k,e.c k=0:=λn=>by
  induction n with
  |zero=>exact λq k=>q k (Qf _)
  |succ n ih =>
   intro q;refine ih λk hk=>?_
   by_cases ek:k=n
   ·subst ek;have h1:(sr R).c (k+m)=0:=by rw[ZbZ];exact Zas ⋯
    rw[h,Rg.Ps.c_mul] at h1;have e1:Rg.Sg (λi=>e.c i*(sr d).c (k+m-i)) (k+m+1)=Rg.Sg (λi=>e.c i*(sr d).c (k+m-i)) (k+1):=by
     have:=Zd9 (h:=λi=>e.c i*(sr d).c (k+m-i)) (n:=k+1) m λi hi=>by
      show e.c i*_=0;rw[q i hi];grind
     rw[<-this,show k+1+m=k+m+1 by omega]
    rw[e1] at h1;have e2:Rg.Sg (λi=>e.c i*(sr d).c (k+m-i)) (k+1)=Rg.Sg (λ_=>0) k+e.c k*(sr d).c (k+m-k):=by
     show Rg.Sg _ k+_=_
     congr 1
     refine Rg.Sg_congr λi hi=>?_;rw[ZbZ,Zas ⋯];grind
    rw[e2,Rg.Sg_zero,ZbZ,show k+m-k=m by omega,top] at h1;grind
   ·exact q k ⋯
 have ez:e=0:=Rg.Ps.ext λk=>by rw[z N hN k,Rg.Ps.c_zero]
 rw[h,ez];grind
theorem ZlJ{F:ZZlk κ}(t:Trm F)(h:sr F=0):F=[]:=ZoM t (.inl rfl) λk=>by
 rw[<-ZbZ,h,Rg.Ps.c_zero];rfl
theorem ZiG{F:ZZlk κ}(t:Trm F)(h:F.length≠0):F.getD (F.length-1) 0≠0:=t.resolve_left h
theorem ZbL{F:ZZlk κ}{x:κ.F}(h:x∈F):∃k,k<F.length/\x=F.getD k 0:=by
 obtain ⟨k,hk,e⟩:=Uy h;exact ⟨k,hk,by rw[Q1,Q4 hk,e];rfl⟩
theorem Zbk{F:ZZlk κ}{D:Int}{M:Nat}(h:∀x∈F,QN κ D M x)(k:Nat):QN κ D M (F.getD k 0):=by
 by_cases q:k<F.length
 ·refine h _ ?_;rw[Q1,Q4 q];exact Ql _
 ·rw[Zas ⋯];exact QN.zero
theorem ZlK{F G:ZZlk κ}{D E:Int}{M N:Nat}(hDE:0<D*E)(hF:∀x∈F,QN κ D M x)(hG:∀x∈G,QN κ E N x)(k:Nat):QN κ (D*E) (F.length*(G.length*(M*N))) ((sr F*sr G).c k):=by
 rw[ZhU];exact ZpX hDE hF hG F.length k (Q3 _)
theorem Zea{x:κ.F}{G:ZZlk κ}{D E:Int}{M N:Nat}(hx:QN κ D M x)(hG:∀y∈G,QN κ E N y)(k:Nat):QN κ (D*E) (M*N) ((cn x*sr G).c k):=by
 rw[ZfK,ZbZ];exact hx.mul (Zbk hG k)
end
structure PolL (κ:KX) (H:Hp) (a:Addr) (xs:List V) (f:ZZlk κ):Prop where
 l:H a=some (.lst xs)
 al:AllG (NR κ H) xs f
theorem PolL.same{κ:KX}{H H':Hp}{a:Addr}{xs:List V}{f:ZZlk κ}(h:PolL κ H a xs f)(S:Same H H'):PolL κ H' a xs f:=⟨S _ _ h.l,h.al.mono λ_ _ n=>n.same S⟩
noncomputable def ZsG{κ:KX}(F G:ZZlk κ):ZZlk κ:=(List.range (max F.length G.length)).map λk=>F.getD k 0+G.getD k 0
def szD(κ:KX):Nat:=match κ with
 | .q=>144
 | .r _ _=>1
def szM(κ:KX):Nat:=match κ with
 | .q=>10^63
 | .r _ _=>1
structure PolS {κ:KX} (f:ZZlk κ):Prop where
 t:Trm f
 l:f.length<=60
 lq:κ = .q->f.length<=9
 s:∀x∈f,QN κ (szD κ:Int) (szM κ) x
end My
namespace L2
open PySem PySem.Spec PyProof.Rows
section
variable{X:Cx}
theorem Zg6(K:ZZfg)(h:X.K=K){e:Expr}{ta:TE}{f:Str}{pos:Pos}(he:PE X e ta)(hb:attributeBase e f X.env (eval e X.env)=eval e X.env):PE X (.Attribute e f pos) (ZrB K ta f):=by subst h;exact Zdv he hb
end
end L2
namespace My
open PySem L2 PyProof.Rows
def PoA(CP CF CR:Addr)(κ:KX)(H:Hp)(s:Addr):Prop:=∃dx k,H s=some (.ins CP dx [("under", .ref k)])/\KdX CF CR κ H k
structure Pc (K:ZZfg) (mg:ZZmg) (CP:Addr):Prop where
 cl:Cls K CP
 nU:NoAttr K CP "under"
 m:mg "Polys"=some (.ref CP)
section
variable{κ:KX}
theorem ZlL(f g:ZZlk κ):∀n,Zf1 f g n=Rg.Sg (λi=>f.getD i 0*g.getD i 0) n
 |0=>rfl
 |n+1=>by
  show Zf1 f g n+_=Rg.Sg _ n+_;rw[ZlL f g n]
theorem ZlM(h:Nat->κ.F)(st:Nat):∀m,Rg.Sg h (st+m)=Rg.Sg h st+Rg.Sg (λi=>h (st+i)) m
 |0=>by
  show Rg.Sg h st=Rg.Sg h st+0;generalize Rg.Sg h st=s;grind
 |m+1=>by
  show Rg.Sg h (st+m)+h (st+m)=Rg.Sg h st+(Rg.Sg _ m+h (st+m));rw[ZlM h st m];generalize Rg.Sg h st=s;generalize Rg.Sg (λi=>h (st+i)) m=t;grind
theorem Zm6{f g:ZZlk κ}{pl st b:Nat}(es:st=pl+1-g.length)(eb:b=min (pl+1) f.length)(h:st<=b):ZfC ((f.drop st).take (b-st)) ((List.range (b-st)).map λi=>g.getD (pl-(st+i)) 0)=(sr f*sr g).c pl:=by
  have l:((f.drop st).take (b-st)).length=b-st:=by rw[Qa,W7]; omega
  unfold ZfC;rw[l,ZlL,Rg.Ps.c_mul];have e1:Rg.Sg (λi=>((f.drop st).take (b-st)).getD i 0*((List.range (b-st)).map λi=>g.getD (pl-(st+i)) 0).getD i 0) (b-st)=Rg.Sg (λi=>f.getD (st+i) 0*g.getD (pl-(st+i)) 0) (b-st):=Rg.Sg_congr λi hi=>by
    congr 1
    · rw[Q1,We,if_pos hi,Uw,Q1]
    · rw[Q1,Qb,Wf hi]; rfl
  rw[e1];have e2:=ZlM (λi=>f.getD i 0*g.getD (pl-i) 0) st (b-st);have e3:Rg.Sg (λi=>f.getD i 0*g.getD (pl-i) 0) st=0:=by
    rw[Rg.Sg_congr (g:=λ_=>(0:κ.F)) λi hi=>?_,Rg.Sg_zero];rw[Zas (F:=g) ⋯]; grind
  have e4:=Zd9 (h:=λi=>f.getD i 0*g.getD (pl-i) 0) (n:=b) (pl+1-b);rw[e3,show st+(b-st)=b by omega] at e2;show _=Rg.Sg (λi=>f.getD i 0*g.getD (pl-i) 0) (pl+1)
  by_cases q:pl+1<=f.length
  · rw[show pl+1=b by omega,e2]
    generalize Rg.Sg (λi=>f.getD (st+i) 0*g.getD (pl-(st+i)) 0) (b-st)=s;grind
  · have e5:=e4 λi hi=>by
      show f.getD i 0*_=0;rw[Zas (F:=f) ⋯]; grind
    rw[show b+(pl+1-b)=pl+1 by omega] at e5;rw[e5,e2];generalize Rg.Sg (λi=>f.getD (st+i) 0*g.getD (pl-(st+i)) 0) (b-st)=s;grind
noncomputable def plP(F G:ZZlk κ):ZZlk κ:=List.zipWith (· + ·) F G++F.drop (min F.length G.length)++G.drop (min F.length G.length)
theorem ZoX(F G:ZZlk κ)(k:Nat):(plP F G).getD k 0=F.getD k 0+G.getD k 0:=by
 unfold plP;have lz:(List.zipWith (· + ·) F G).length=min F.length G.length:=Wx ..
 by_cases h1:k<min F.length G.length
 ·rw[List.append_assoc,Q1,Wh ⋯,List.getElem?_zipWith,Q4 (show k<F.length by omega),Q4 (show k<G.length by omega),Q1,Q4 (show k<F.length by omega),Q1,Q4 (show k<G.length by omega)]
  rfl
 ·rcases Nat.le_total F.length G.length with q|q
  ·rw[Nat.min_eq_left q,List.drop_length,Us,Q1,Wo ⋯,Uw,lz,Nat.min_eq_left q,show F.length+(k-F.length)=k by omega,<-Q1,Zas (F:=F) ⋯];generalize G.getD k 0=z;grind
  ·rw[Nat.min_eq_right q,List.drop_length,Us,Q1,Wo ⋯,Uw,lz,Nat.min_eq_right q,show G.length+(k-G.length)=k by omega,<-Q1,Zas (F:=G) ⋯];generalize F.getD k 0=z;grind
theorem ZoY(F G:ZZlk κ):(plP F G).length=max F.length G.length:=by
 unfold plP;rw[Qg,Qg,Wx,W7,W7];omega
end
inductive Zeb (CP:Addr) (vs:List V) (H:Hp) (Q:VK) (zE:XK):Prop
 |mk (x dx k:Addr) (_:vs=[.ref x,.ref k]) (_:H x=some (.ins CP dx [])) (_:Q .non (upd H x (.ins CP dx [("under", .ref k)]))):Zeb CP vs H Q zE
inductive ZlN (CF CR:Addr) (vs:List V) (H:Hp) (Q:VK) (zE:XK):Prop
 |mk (κ:KX) (s fa ga:Addr) (xs ys:List V) (f g:ZZlk κ) (pl D E M N:Nat) (_:vs=[.ref s,.ref fa,.ref ga,.int (pl:Int)]) (_:KdX CF CR κ H s) (_:PolL κ H fa xs f) (_:PolL κ H ga ys g) (_:pl+2<=f.length+g.length) (_:f.length<=90) (_:g.length<=90) (_:(∀x∈f,QN κ (D:Int) M x)) (_:(∀x∈g,QN κ (E:Int) N x)) (_:0<D) (_:D<=10^200) (_:0<E) (_:E<=10^200) (_:M<=10^500) (_:N<=10^500) (_:∀H' v,Same H H'->NR κ H' v ((sr f*sr g).c pl)->Q v H'):ZlN CF CR vs H Q zE
inductive Zg7 (CP CF CR:Addr) (vs:List V) (H:Hp) (Q:VK) (zE:XK):Prop
 |mk (κ:KX) (s fa ga:Addr) (xs ys:List V) (F G:ZZlk κ) (_:vs=[.ref s,.ref fa,.ref ga]) (_:PoA CP CF CR κ H s) (_:PolL κ H fa xs F) (_:PolL κ H ga ys G) (_:F.length<=90) (_:G.length<=90) (_:(∀x∈F,B1 κ x)) (_:(∀x∈G,B1 κ x)) (_:∀(H':Hp) (R:Addr) (zs:List V) (T:ZZlk κ),Same H H'->H R=none->PolL κ H' R zs T->Trm T->sr T=sr F+sr G->T.length<=max F.length G.length->Q (.ref R) H'):Zg7 CP CF CR vs H Q zE
inductive ZfM (CP CF CR:Addr) (vs:List V) (H:Hp) (Q:VK) (zE:XK):Prop
 |mk (κ:KX) (s fa ga:Addr) (xs ys:List V) (F G:ZZlk κ) (_:vs=[.ref s,.ref fa,.ref ga]) (_:PoA CP CF CR κ H s) (_:PolL κ H fa xs F) (_:PolL κ H ga ys G) (_:F.length<=90) (_:G.length<=90) (_:(∀x∈F,B1 κ x)) (_:(∀x∈G,B1 κ x)) (_:∀(H':Hp) (R:Addr) (zs:List V) (T:ZZlk κ),Same H H'->H R=none->PolL κ H' R zs T->Trm T->sr T=sr F-sr G->T.length<=max F.length G.length->Q (.ref R) H'):ZfM CP CF CR vs H Q zE
inductive Zde (CP CF CR:Addr) (vs:List V) (H:Hp) (Q:VK) (zE:XK):Prop
 |mk (κ:KX) (s fa ga:Addr) (xs ys:List V) (F G:ZZlk κ) (D E M N:Nat) (_:vs=[.ref s,.ref fa,.ref ga]) (_:PoA CP CF CR κ H s) (_:PolL κ H fa xs F) (_:PolL κ H ga ys G) (_:F.length<=90) (_:G.length<=90) (_:(∀x∈F,QN κ (D:Int) M x)) (_:(∀x∈G,QN κ (E:Int) N x)) (_:0<D) (_:D<=10^200) (_:0<E) (_:E<=10^200) (_:M<=10^500) (_:N<=10^500) (_:∀(H':Hp) (R:Addr) (zs:List V) (T:ZZlk κ),Same H H'->H R=none->PolL κ H' R zs T->Trm T->sr T=sr F*sr G->T.length<=F.length+G.length-1->Q (.ref R) H'):Zde CP CF CR vs H Q zE
section
variable{P:Program}{w:World}{K:ZZfg}{mg:ZZmg}{base:Heap}{CP CF CR cN cF:Addr}
theorem Zql(h:Here K mg "product_number" Zbl) (T:Nm mg) (Tmax:mg "max"=none) (Tmin:mg "min"=none) (md:ZfD P w K mg base CF CR):Has P w K mg base "product_number" 4 ["kind","some","others","place"] (ZlN CF CR):=by
 refine h.has (λ_ _ F=>F.b4 λ_ _ _ _ _ _ _ _ _ _=>rfl) λf fd F=>F.ok sc_product_number (λvs H Q E h=>?_) (λcdv A outer s H vs Q E hr h=>?_)
 ·obtain ⟨_,_,_,_,_,_,_,_,_,_,_,_,_,rfl,_⟩:=h
  rfl
 obtain ⟨κ,sk,fa,ga,xs,ys,f,g,pl,D,E,M,N,rfl,hk,⟨hF,aF⟩,⟨hG,aG⟩,lp,l9,g9,qf,qg,d0,d1,e0,e1,hM,hN,k⟩:=h;have nd:=sc_product_number.nd;refine ⟨_,(Zac (Zak (i:=4) nd rfl (Or.inl rfl) (Zaj (Zhj rfl) (by rfl) Tmax PyProof.Rows.Boot.max (Zaa Zad (Zaa (Zan ZaM (Zan Zbe (pv 3) (Zaj Zai (by rfl) T.len boot_len (Zaa (pv 2) Zab))) Zad) Zab))))
  (Zac (Zak (i:=5) nd rfl (Or.inl rfl) (Zaj (Zhk rfl) (by rfl) Tmin PyProof.Rows.Boot.min (Zaa (Zan ZaM (pv 3) Zad) (Zaa (Zaj Zai (by rfl) T.len boot_len (Zaa (pv 1) Zab)) Zab))))
  (Zae (Zal (Zaz (pv 0) hr (Zaa (ZaS Zbg (pv 1) (Za5 (pv 4)) (Za5 (pv 5))) (Zaa (ZaU ["each"] [(2,"others"),(3,"place")] rfl (Ze8 (by rfl) T.range (Zaa (pv 4) (Zaa (pv 5) Zab))) (by exact λ_ _ _ _=>(Zaq (i:=0) (show (["each","others","place"]:List Str).Nodup by decide +kernel) rfl (Or.inl rfl))) (by exact λ_ _ _ _=>(Zao (Zdn K rfl) (pv 1) (Zan Zbe (pv 2) (pv 0)) (λ_ _=>rfl))) ⟨⟨rfl,rfl,Or.inl rfl⟩,⟨⟨rfl,rfl,Or.inl rfl⟩,trivial⟩⟩) Zab))))))),?_⟩
 have lx:=aF.1;have ly:=aG.1;refine ⟨_,rfl,_,rfl,ga,_,rfl,.inl (SqL.of hG),_,_,rfl,rfl,_,_,rfl,rfl,_,_,rfl,?_⟩;obtain ⟨st,est,hst⟩:∃st:Nat,(if (pl:Int)-(ys.length:Int)+1>0 then (pl:Int)-(ys.length:Int)+1 else 0)=(st:Int)/\st=pl+1-g.length:=⟨pl+1-g.length,by split <;> omega,rfl⟩;show Zdz 4 (V.int (if (pl:Int)-(ys.length:Int)+1>0 then (pl:Int)-(ys.length:Int)+1 else 0)) _ H _;rw[est];refine ⟨_,rfl,_,_,rfl,rfl,_,rfl,fa,_,rfl,.inl (SqL.of hF),_,_,rfl,?_⟩;obtain ⟨b,eb,hb⟩:∃b:Nat,(if (xs.length:Int)<(pl:Int)+1 then (xs.length:Int) else (pl:Int)+1)=(b:Int)/\b=min (pl+1) f.length:=⟨min (pl+1) f.length,by split <;> omega,rfl⟩;show Zdz 5 (V.int (if (xs.length:Int)<(pl:Int)+1 then (xs.length:Int) else (pl:Int)+1)) _ H _;rw[eb];have sb:st<=b:=⋯;obtain ⟨Cd,dxd,fsd,psd,dvd,spd,k1,k2,k3,k4,rfl,k5⟩:=md κ H sk hk;refine ⟨_,rfl,sk,Cd,dxd,fsd,psd,_,spd,rfl,k1,k2,k3.mono ∅,k4,_,rfl,_,rfl,_,rfl,_,rfl,_,rfl,fa,xs,rfl,SqL.of hF,λsl nsl=>?_⟩;rw[Zjo xs sb ⋯];have Ss:=Zag nsl (.lst ((xs.drop st).take (b-st)));have qs:=Zaf (H:=H) (a:=sl) (o:=.lst ((xs.drop st).take (b-st)));generalize upd H sl (.lst ((xs.drop st).take (b-st)))=H1 at *;refine ⟨_,rfl,_,rfl,_,_,rfl,⟨⋯,⋯,⋯,⋯⟩,?_⟩;rw[show ((b:Int)-(st:Int)).toNat=b-st by omega];refine Zbc (lo:=(st:Int)) (n:=b-st) (λq zs H2=>H2=H1/\AllG (NR κ H1) zs ((List.range q).map λi=>g.getD (pl-(st+i)) 0)) ⋯ ⟨rfl,.nil⟩ ?_ ?_
 ·rintro q zs H2 hq _ ⟨rfl,e⟩;obtain ⟨v,hv,nv⟩:=Za1 aG (i:=pl-(st+q)) ⋯;refine ⟨_,rfl,_,rfl,_,rfl,_,_,rfl,rfl,ga,_,_,v,rfl,rfl,SqL.of (Ss _ _ hG),?_,rfl,?_⟩
  ·rw[show (pl:Int)-((st:Int)+(q:Int))=((pl-(st+q):Nat):Int) by omega];exact ZaK hv
  ·rw[Uo,Qn];exact e.append (.one (nv.same Ss))
 rintro zs H2 _ ⟨rfl,e⟩ lz nlz;have Sz:=Zag nlz (.lst zs);have qz:=Zaf (H:=H2) (a:=lz) (o:=.lst zs);generalize upd H2 lz (.lst zs)=H3 at *;have S03:=Ss.trans Sz;have lsl:((f.drop st).take (b-st)).length=b-st:=by rw[Qa,W7];omega
 refine k5 H3 sl lz _ zs ((f.drop st).take (b-st)) ((List.range (b-st)).map λi=>g.getD (pl-(st+i)) 0) D E M N _ S03 (Sz _ _ qs) qz (ZhQ (aF.mono λ_ _ n=>n.same S03)) (e.mono λ_ _ n=>n.same Sz) (by rw[lsl,Q2,Qs]) ⋯ (λx hx=>qf x (List.mem_of_mem_drop (U4 hx))) (λx hx=>?_) d0 d1 e0 e1 hM hN λH4 v S4 nv=>?_
 ·obtain ⟨i,hi,rfl⟩:=W4.mp hx;exact Zbk qg _
 ·rw[Zm6 hst hb sb] at nv;exact k H4 v (S03.trans S4) nv
theorem ZeF:FnScope ["self","under"] ["self","under"] (Zah ZbQ):=‹2›
theorem Zm7(h:HereI K CP "Polys.__init__" ZbQ) (pc:Pc K mg CP):HasI P w K mg base CP 1 ["self","under"] (Zeb CP):=by
 refine h.hasI (λ_ _ F=>F.b2 λ_ _ _ _ _ _ _ _=>rfl) λf fd F=>F.ok ZeF (λvs H Q E h=>?_) (λcdv A outer s H vs Q E hr h=>?_)
 ·obtain ⟨_,_,_,rfl,_⟩:=h
  rfl
 obtain ⟨x,dx,kk,rfl,hx,k⟩:=h;refine ⟨_,(Zae (Znt (pv 0) (pv 1) rfl)),?_⟩;exact ⟨_,rfl,_,rfl,x,CP,dx,_,rfl,hx,pc.cl,pc.nU,(by show 0<1000;decide),k⟩
theorem sc_Polys_times:FnScope ["self","one","other","count"] ["self","one","other"] (Zah ZcG):=‹2›
theorem ZlO(h:HereM K CP "times" "Polys.times" ZcG) (T:Nm mg) (pc:Pc K mg CP) (h_trimmed:Has P w K mg base "trimmed" 4 ["kind","numbers"] (Zb0 CF CR)) (h_product_number:Has P w K mg base "product_number" 4 ["kind","some","others","place"] (ZlN CF CR)):HasM P w K mg base CP "times" 5 ["self","one","other"] [] (Zde CP CF CR):=by
 refine h.hasM (λ_ _ F=>F.b3 λ_ _ _ _ _ _ _ _ _=>rfl) λf fd F=>F.ok sc_Polys_times (λvs H Q E h=>?_) (λcdv A outer s H vs Q E hr h=>?_)
 ·obtain ⟨_,_,_,_,_,_,_,_,_,_,_,_,rfl,_⟩:=h
  rfl
 obtain ⟨κ,po,fa,ga,xs,ys,F,G,D,E,M,N,rfl,⟨dxp,sk,hpo,hk⟩,pF,pG,lF,lG,qF,qG,d0,d1,e0,e1,hM,hN,k⟩:=h;have nd:=sc_Polys_times.nd;refine ⟨_,(Zac (Zak (i:=3) nd rfl (Or.inl rfl) (Zan Zbe (Zan ZaM (Zaj Zai (by rfl) T.len boot_len (Zaa (pv 1) Zab)) (Zaj Zai (by rfl) T.len boot_len (Zaa (pv 2) Zab))) Zad))
  (Zae (Zal (Zam h_trimmed hr (by rfl) (Zaa (Zdv (pv 0) rfl) (Zaa (ZaU ["place"] [(0,"self"),(1,"one"),(2,"other")] rfl (ZaE (by rfl) T.range (Zaa (pv 3) Zab)) (by exact λ_ _ _ _=>(Zaq (i:=0) (show (["place","self","one","other"]:List Str).Nodup by decide +kernel) rfl (Or.inl rfl))) (by exact λ_ _ _ _=>(Zam h_product_number hr (by rfl) (Zaa (Zg6 K rfl (pv 1) rfl) (Zaa (pv 2) (Zaa (pv 3) (Zaa (pv 0) Zab)))))) ⟨⟨rfl,rfl,Or.inl rfl⟩,⟨⟨rfl,rfl,Or.inl rfl⟩,⟨⟨rfl,rfl,Or.inl rfl⟩,trivial⟩⟩⟩) Zab)))))),?_⟩
 have lx:=pF.al.1;have ly:=pG.al.1;refine ⟨_,rfl,fa,_,rfl,.inl (SqL.of pF.l),_,rfl,ga,_,rfl,.inl (SqL.of pG.l),_,_,rfl,rfl,_,_,rfl,rfl,?_⟩;refine ⟨_,rfl,po,CP,dxp,_,_,rfl,hpo,pc.cl,pc.nU,rfl,_,rfl,(xs.length:Int)+(ys.length:Int)-1,rfl,⋯,⋯,?_⟩;rw[show ((xs.length:Int)+(ys.length:Int)-1).toNat=F.length+G.length-1 by omega];refine Zbc (lo:=0) (n:=F.length+G.length-1) (λq zs H2=>Same H H2/\AllG (NR κ H2) zs ((List.range q).map λi=>(sr F*sr G).c i)) ⋯ ⟨Same.refl _,.nil⟩ ?_ ?_
 ·rintro q zs H2 hq _ ⟨S2,e⟩;refine ⟨_,rfl,po,CP,dxp,_,_,rfl,S2 _ _ hpo,pc.cl,pc.nU,rfl,_,rfl,_,rfl,_,rfl,κ,sk,fa,ga,xs,ys,F,G,q,D,E,M,N,(by rw[Qw];rfl),hk.same S2,pF.same S2,pG.same S2,⋯,lF,lG,qF,qG,d0,d1,e0,e1,hM,hN,λH3 v S3 nv=>⟨S2.trans S3,?_⟩⟩;rw[Uo,Qn];exact (e.mono λ_ _ n=>n.same S3).append (.one nv)
 ·rintro zs H2 _ ⟨S2,e⟩ D' nD;have SD:=Zag nD (.lst zs);have qD:=Zaf (H:=H2) (a:=D') (o:=.lst zs);generalize upd H2 D' (.lst zs)=H3 at *;have S3:=S2.trans SD;refine ⟨κ,sk,D',zs,_,rfl,hk.same S3,qD,e.mono (λ_ _ n=>n.same SD),λH4 R r S4 nR hR lr r0 r1=>?_⟩;rw[Q2,Qs] at lr;refine k H4 R _ (((List.range (F.length+G.length-1)).map λi=>(sr F*sr G).c i).take r) (S3.trans S4) (S3.free nR) ⟨hR,Zbv (e.mono λ_ _ n=>(n.same SD).same S4) r⟩ (Zg2 (by rw[Q2,Qs];exact lr) r1) ?_ ?_
  ·refine Rg.Ps.ext λj=>?_;rw[ZbZ,ZhT r0]
   by_cases hj:j<F.length+G.length-1
   ·rw[Q1,Qb,Wf hj];rfl
   ·rw[Zas (by rw[Q2,Qs];omega),ZhU,ZoF ⋯]
  ·rw[Qa,Q2,Qs];omega
theorem sc_Polys_plus:FnScope ["self","one","other","both"] ["self","one","other"] (Zah Zc3):=‹2›
theorem Zm8(h:HereM K CP "plus" "Polys.plus" Zc3) (T:Nm mg) (Tz:mg "zip"=none) (pc:Pc K mg CP) (mp:ZfV P w K mg base CF CR "plus" (λ_ x y=>x+y)) (h_trimmed:Has P w K mg base "trimmed" 4 ["kind","numbers"] (Zb0 CF CR)):HasM P w K mg base CP "plus" 5 ["self","one","other"] [] (Zg7 CP CF CR):=by
 refine h.hasM (λ_ _ F=>F.b3 λ_ _ _ _ _ _ _ _ _=>rfl) λf fd F=>F.ok sc_Polys_plus (λvs H Q E h=>?_) (λcdv A outer s H vs Q E hr h=>?_)
 ·obtain ⟨_,_,_,_,_,_,_,_,rfl,_⟩:=h
  rfl
 obtain ⟨κ,po,fa,ga,xs,ys,F,G,rfl,⟨dxp,sk,hpo,hk⟩,pF,pG,lF,lG,bF,bG,k⟩:=h;have nd:=sc_Polys_plus.nd;refine ⟨_,(Zac (Zbz (i:=3) ["left","right"] [(0,"self")] nd rfl rfl rfl (ZhC (by rfl) Tz (Zaa (pv 1) (Zaa (pv 2) Zab))) (by exact λ_ _ _ _=>(Zib (n:=2) K rfl rfl (ZbJ (Zaq (i:=0) (show (["left","right","self"]:List Str).Nodup by decide +kernel) rfl (Or.inl rfl)) (ZbJ (Zaq (i:=1) (show (["left","right","self"]:List Str).Nodup by decide +kernel) rfl (Or.inl rfl)) Ze7)))) (by exact λ_ _ _ _=>(Zcs ⟨rfl,rfl,rfl,rfl,rfl⟩ (Zg6 K rfl (pv 2) rfl) hr (Zaa (pv 0) (Zaa (pv 1) Zab)))) ⟨⟨rfl,rfl,Or.inl rfl⟩,trivial⟩)
  (Zae (Zal (Zam h_trimmed hr (by rfl) (Zaa (Zdv (pv 0) rfl) (Zaa (Zan ZkD (Zan ZkD (pv 3) (ZaS Zbg (pv 1) (Za5 (Zaj Zai (by rfl) T.len boot_len (Zaa (pv 3) Zab))) Zbr)) (ZaS Zbg (pv 2) (Za5 (Zaj Zai (by rfl) T.len boot_len (Zaa (pv 3) Zab))) Zbr)) Zab)))))),?_⟩
 have lx:=pF.al.1;have ly:=pG.al.1;refine ⟨_,rfl,_,rfl,fa,ga,rfl,⟨_,SqL.of pF.l⟩,⟨_,SqL.of pG.l⟩,?_⟩;refine Zfg (K:=K) (a:=fa) (b:=ga) (xs:=xs) (ys:=ys) (λm zs H2=>Same H H2/\AllG (NR κ H2) zs (List.zipWith (· + ·) (F.take m) (G.take m))) ⋯ ⟨Same.refl _,.nil⟩ (λm zs H2 q=>⟨SqL.of (q.1 _ _ pF.l),SqL.of (q.1 _ _ pG.l)⟩) ?_ ?_
 ·rintro m x y T0 ws H2 hx' hy' hl nT ⟨S,al'⟩;obtain ⟨xp,xq,hxp,hxq,np,nq⟩:=pF.al.zip pG.al hx' hy';have ST:=Zag nT (.tup [x,y]);generalize upd H2 T0 (.tup [x,y])=H3 at *;have S3:=S.trans ST;obtain ⟨C,dx,fs,ps,dvs,sp,h1,h2,h3,h4,rfl,h5⟩:=mp κ H3 sk (hk.same S3);refine ⟨_,rfl,po,CP,dxp,_,_,rfl,S3 _ _ hpo,pc.cl,pc.nU,rfl,sk,C,dx,fs,ps,_,sp,rfl,h1,h2,h3.mono ∅,h4,_,rfl,_,rfl,h5 H3 x y xp xq _ (Same.refl _) (np.same S3) (nq.same S3) (bF xp (Qc hxp)) (bG xq (Qc hxq)) λt H4 S4 nt=>⟨S3.trans S4,?_⟩⟩;rw[W5,hxp,W5,hxq];have lp:=(Qo.mp hxp).1;have lq:=(Qo.mp hxq).1;rw[show (some xp).toList=[xp] from rfl,show (some xq).toList=[xq] from rfl,List.zipWith_append (by rw[Qa,Qa];omega)];exact (al'.mono λ_ _ n=>n.same (ST.trans S4)).append (.one nt)
 ·rintro zs H2 hl ⟨S,al'⟩ ba nba;have ez:List.zipWith (· + ·) (F.take (min xs.length ys.length)) (G.take (min xs.length ys.length))=List.zipWith (· + ·) F G:=by
   rw[<-List.take_zipWith,Wt];rw[Wx];omega
  rw[ez] at al';have lz:zs.length=min F.length G.length:=by rw[hl,lx,ly]
  have Sb:=Zag nba (.lst zs);have qb:=Zaf (H:=H2) (a:=ba) (o:=.lst zs);generalize upd H2 ba (.lst zs)=H3 at *;have S3:=S.trans Sb;refine ⟨_,rfl,po,CP,dxp,_,_,rfl,S3 _ _ hpo,pc.cl,pc.nU,rfl,_,rfl,_,rfl,_,rfl,ba,_,rfl,.inl (SqL.of qb),_,rfl,fa,_,rfl,SqL.of (S3 _ _ pF.l),λp1 np1=>?_⟩;rw[Zfz _ zs.length];have T1:=Zag np1 (.lst (xs.drop zs.length));have w1:=Zaf (H:=H3) (a:=p1) (o:=.lst (xs.drop zs.length));generalize upd H3 p1 (.lst (xs.drop zs.length))=H4 at *;have sl:(200:Nat)<=sizeLine:=∅;refine ⟨ba,p1,_,_,rfl,rfl,T1 _ _ qb,w1,(by rw[W7];omega),λp2 np2=>?_⟩;have T2:=Zag np2 (.lst (zs++xs.drop zs.length));have w2:=Zaf (H:=H4) (a:=p2) (o:=.lst (zs++xs.drop zs.length));generalize upd H4 p2 (.lst (zs++xs.drop zs.length))=H5 at *;have S5:=S3.trans (T1.trans T2);refine ⟨_,rfl,_,rfl,ba,_,rfl,.inl (SqL.of (T2 _ _ (T1 _ _ qb))),_,rfl,ga,_,rfl,SqL.of (S5 _ _ pG.l),λp3 np3=>?_⟩;rw[Zfz _ zs.length];have T3:=Zag np3 (.lst (ys.drop zs.length));have w3:=Zaf (H:=H5) (a:=p3) (o:=.lst (ys.drop zs.length));generalize upd H5 p3 (.lst (ys.drop zs.length))=H6 at *;refine ⟨p2,p3,_,_,rfl,rfl,T3 _ _ w2,w3,(by rw[Qg,W7,W7];omega),λp4 np4=>?_⟩;have T4:=Zag np4 (.lst (zs++xs.drop zs.length++ys.drop zs.length));have w4:=Zaf (H:=H6) (a:=p4) (o:=.lst (zs++xs.drop zs.length++ys.drop zs.length));generalize upd H6 p4 (.lst (zs++xs.drop zs.length++ys.drop zs.length))=H7 at *;have S37:=T1.trans (T2.trans (T3.trans T4));have S7:=S3.trans S37;have aW:AllG (NR κ H7) (zs++xs.drop zs.length++ys.drop zs.length) (plP F G):=by
   unfold plP;rw[lz];exact ((al'.mono λ_ _ n=>(n.same Sb).same S37).append ((pF.al.mono λ_ _ n=>n.same S7).drop _)).append ((pG.al.mono λ_ _ n=>n.same S7).drop _)
  refine ⟨κ,sk,p4,_,plP F G,rfl,hk.same S7,w4,aW,λH8 R r S8 nR hR lr r0 r1=>?_⟩;refine k H8 R _ ((plP F G).take r) (S7.trans S8) (S7.free nR) ⟨hR,Zbv (aW.mono λ_ _ n=>n.same S8) r⟩ (Zg2 lr r1) (Rg.Ps.ext λj=>?_) (by rw[Qa,ZoY];omega);rw[ZbZ,ZhT r0,ZoX,Rg.Ps.c_add,ZbZ,ZbZ]
theorem sc_Polys_minus:FnScope ["self","one","other"] ["self","one","other"] (Zah ZcF):=‹2›
theorem ZlP(h:HereM K CP "minus" "Polys.minus" ZcF) (T:Nm mg) (pc:Pc K mg CP) (mm:ZmB P w K mg base CF CR) (mn:ZcL P w K mg base CF CR) (hP:HasM P w K mg base CP "plus" 5 ["self","one","other"] [] (Zg7 CP CF CR)):HasM P w K mg base CP "minus" 6 ["self","one","other"] [] (ZfM CP CF CR):=by
 refine h.hasM (λ_ _ F=>F.b3 λ_ _ _ _ _ _ _ _ _=>rfl) λf fd F=>F.ok sc_Polys_minus (λvs H Q E h=>?_) (λcdv A outer s H vs Q E hr h=>?_)
 ·obtain ⟨_,_,_,_,_,_,_,_,rfl,_⟩:=h
  rfl
 obtain ⟨κ,po,fa,ga,xs,ys,F,G,rfl,⟨dxp,sk,hpo,hk⟩,pF,pG,lF,lG,bF,bG,k⟩:=h;have nd:=sc_Polys_minus.nd;refine ⟨_,(Zae (Zal (Zaz (pv 0) hr (Zaa (pv 1) (Zaa (ZaU ["each"] [(0,"self")] rfl (ZaD (pv 2)) (by exact λ_ _ _ _=>(Zaq (i:=0) (show (["each","self"]:List Str).Nodup by decide +kernel) rfl (Or.inl rfl))) (by exact λ_ _ _ _=>(Zcs ⟨rfl,rfl,rfl,rfl,rfl⟩ (Zg6 K rfl (pv 1) rfl) hr (Zaa (ZhE ⟨rfl,rfl,rfl,rfl,rfl⟩ (Zg6 K rfl (pv 1) rfl) Zcr hr (Zaa Zad Zab)) (Zaa (pv 0) Zab)))) ⟨⟨rfl,rfl,Or.inl rfl⟩,trivial⟩) Zab))))),?_⟩;have ly:=pG.al.1;refine ⟨_,rfl,po,CP,dxp,_,_,_,_,rfl,hpo,pc.cl,hP,rfl,_,rfl,_,rfl,ga,rfl,⟨_,SqL.of pG.l⟩,?_⟩;refine ZaG (K:=K) (a:=ga) (xs:=ys) (λi zs H2=>Same H H2/\AllG (NR κ H2) zs ((G.take i).map λx=>0-x)) ⋯ ⟨Same.refl H,.nil⟩ (λi zs H2 _ q=>SqL.of (q.1 _ _ pG.l)) ?_ ?_
 ·rintro i x zs H2 hx hl ⟨S,e⟩;obtain ⟨y,hy,ny⟩:=pG.al.get hx;obtain ⟨C',dx',fs',ps',dvs',sp',d1,d2,d3,d4,rfl,d5⟩:=mm κ H2 sk (hk.same S);obtain ⟨C,dx,fs,ps,dvs,sp,c1,c2,c3,c4,rfl,c5⟩:=mn κ H2 sk (hk.same S);refine ⟨_,rfl,po,CP,dxp,_,_,rfl,S _ _ hpo,pc.cl,pc.nU,rfl,sk,C',dx',fs',ps',_,sp',rfl,d1,d2,d3.mono ∅,d4,_,rfl,po,CP,dxp,_,_,rfl,S _ _ hpo,pc.cl,pc.nU,rfl,sk,C,dx,fs,ps,_,sp,rfl,c1,c2,c3.mono ∅,c4,c5 H2 0 0 _ _ (Same.refl _) ZfW λv H3 S3 nv=>?_⟩;refine ⟨_,rfl,d5 H3 v x 0 y _ S3 nv (ny.same (S.trans S3)) ZoB (bG y (Qc hy)) λt H4 S4 nt=>?_⟩;refine ⟨S.trans (S3.trans S4),?_⟩;rw[W5,hy,Qn];exact (e.mono λ_ _ n=>n.same (S3.trans S4)).append (.one nt)
 ·rintro zs H2 hl ⟨S2,e2⟩ na nna;rw[ly,Wy] at e2;have Sn:=Zag nna (.lst zs);have qn:=Zaf (H:=H2) (a:=na) (o:=.lst zs);generalize upd H2 na (.lst zs)=H3 at *;have S3:=S2.trans Sn;refine ⟨κ,po,fa,na,xs,zs,F,_,rfl,⟨dxp,sk,S3 _ _ hpo,hk.same S3⟩,pF.same S3,⟨qn,e2.mono λ_ _ n=>n.same Sn⟩,lF,by rw[Q2];exact lG,bF,(λx hx=>?_),λH4 R ws T S4 nR pT tT eT lT=>?_⟩
  ·obtain ⟨y,hy,rfl⟩:=W4.mp hx;exact Zlc (bG y hy)
  ·rw[Q2] at lT;refine k H4 R ws T (S3.trans S4) (S3.free nR) pT tT ?_ lT;rw[eT];refine Rg.Ps.ext λj=>?_;rw[Rg.Ps.c_add,Rg.Ps.c_sub,ZbZ,ZbZ,ZbZ,Q1 (l:=G.map λx=>0-x),Qb,Q1 (l:=G)]
   cases G[j]? with
   |none=>show _+(0:κ.F)=_-0;generalize F.getD j 0=z;grind
   |some y=>show _+(0-y)=_-y;generalize F.getD j 0=z;grind
end
section
variable{κ:KX}
noncomputable def rsd(x:κ.F):Nat->κ.F
 |0=>1
 |n+1=>rsd x n*x
theorem ZfN{x:κ.F}{D M:Nat}(h:QN κ (D:Int) M x):∀n,QN κ ((D^n:Nat):Int) (M^n) (rsd x n)
 |0=>ZfB
 |n+1=>by
  have:=(ZfN h n).mul h;rw[Qq,Qq,W1];exact this
theorem ZhV{x:κ.F}(h:x≠0):∀n,rsd x n≠0
 |0=>λz=>Fd.zne z.symm
 |n+1=>λz=>by
  have mi:=Fd.mul_inv x h;refine ZhV h n ?_;have z:rsd x n*x=0:=z;generalize rsd x n=y at *;generalize Fd.inv x=i at *;have:y=y*x*i:=by grind
  rw[this,z];grind
theorem ZnX{x y:κ.F}(hx:x≠0)(hy:y≠0):x*y≠0:=λz=>by
 have mi:=Fd.mul_inv y hy;refine hx ?_;generalize Fd.inv y=i at *;have:x=x*y*i:=by grind
 rw[this,z];grind
theorem Zjw{x:κ.F}(hx:x≠0):Fd.inv x≠0:=λz=>by
 have mi:=Fd.mul_inv x hx;rw[z] at mi;exact Fd.zne (show (1:κ.F)=0 by rw[<-mi];grind).symm
theorem ZeT{D:Nat}{M:Nat}{x:κ.F}(h:QN κ (D:Int) M x)(hD:0<D)(bD:D<2^3000)(bM:M<2^3000):B1 κ x:=h.b1 ⋯ (by rw[Qj];exact bD) bM
structure FrSz (Du Su Dl Sl Da Sa Dh Sh g:Nat):Prop where
 du:0<Du
 su:0<Su
 dl:0<Dl
 sl:0<Sl
 da:0<Da
 sa:0<Sa
 dh:0<Dh
 sh:0<Sh
 dS:Dl<=Sl
 a:Dl^(g+1)*Du<=10^200
 b:25*(Sl^(g+1)*Su)<=10^500
 c:Dl^(g+1)*Du*(Sl*Dl)^(g+1)<2^3000
 e:Sl^(g+1)*Su*(2*(Dl*Sl))^(g+1)<2^3000
 f:Da*Dh^g<=10^200
 h:Sa*Sh^g<=10^200
 hD:Dh<2^3000
 hS:Sh<2^3000
theorem ZlQ{Q L:ZZlk κ}{n k:Nat}(h:Q.length<=n):(sr Q*sr L).c k=Rg.Sg (λi=>Q.getD i 0*gs L i k) n:=by
 rw[ZhU,ZlI];have:=Zd9 (h:=λi=>Q.getD i 0*gs L i k) (n:=Q.length) (n-Q.length) λi hi=>by
  show Q.getD i 0*_=0;rw[Zas hi];grind
 rw[<-this,show Q.length+(n-Q.length)=n by omega]
theorem Zrk{L:ZZlk κ}{D:Int}{M:Nat}(h:∀x∈L,QN κ D M x)(i k:Nat):QN κ D M (gs L i k):=by
 unfold gs
 split
 ·exact Zbk h _
 ·exact QN.zero
theorem Zm9{U L Q R:ZZlk κ}{g d Du Su Dl Sl:Nat}(lL:L.length=d+1)(c0:L.getD d 0≠0)(lQ:Q.length<=g+1)(lR:R.length<=d)(gd:κ = .q->g+d<=3)(du:0<Du)(dl:0<Dl)(sl:0<Sl)
    (qU:∀x∈U,QN κ (Du:Int) Su x) (qL:∀x∈L,QN κ (Dl:Int) Sl x) (e:cn (rsd (L.getD d 0) (g+1))*sr U=sr Q*sr L+sr R) (k:Nat):QN κ ((Dl^g*Du:Nat):Int) (4*(Sl^g*Su)) (Q.getD k 0):=by
  by_cases hk:g<k
  · rw[Zas ⋯]; exact QN.zero
  by_cases hq:κ ≠ .q
  · cases κ with
    | q=>exact absurd rfl hq
    | r p hp=>exact trivial
  have hq:κ = .q:=Classical.byContradiction λz=>hq z;have gd:=gd hq;have co:∀j,d<=j->rsd (L.getD d 0) (g+1)*U.getD j 0=Rg.Sg (λi=>Q.getD i 0*gs L i j) (g+1):=λj hj=>by
    have z:=congrArg (λs=>s.c j) e;have z:(cn (rsd (L.getD d 0) (g+1))*sr U).c j=(sr Q*sr L+sr R).c j:=z;rw[ZfK,Rg.Ps.c_add,ZbZ,ZbZ,Zas (F:=R) ⋯,ZlQ lQ] at z;rw[z];generalize Rg.Sg (λi=>Q.getD i 0*gs L i j) (g+1)=s;grind
  have mi:=Fd.mul_inv _ c0;have qc:=Zbk qL d;have can:∀ {x y:κ.F},L.getD d 0*x=L.getD d 0*y->x=y:=fun {x y} h=>by
    have h1:x=Fd.inv (L.getD d 0)*(L.getD d 0*x):=by
      generalize L.getD d 0=c at *;grind
    rw[h1,h];generalize L.getD d 0=c at *;grind
  have gst:∀i,gs L i (i+d)=L.getD d 0:=λi=>by unfold gs; rw[if_pos (Nat.le_add_right _ _),Nat.add_sub_cancel_left]
  have gso:∀i j,i+d<j->gs L i j=0:=λi j h=>by
    unfold gs
    split
    · exact Zas ⋯
    · rfl
  have gsl:∀i j,j<i->gs L i j=0:=λi j h=>by unfold gs; rw[if_neg ⋯]
  by_cases d0:d=0
  · -- a number alone
    subst d0;have h:=co k (Qf _);have s1:Rg.Sg (λi=>Q.getD i 0*gs L i k) (g+1)=Rg.Sg (λi=>(Q.getD i 0*L.getD 0 0)*(if k=i then 1 else 0)) (g+1):=Rg.Sg_congr λi _=>by
      by_cases q:k=i
      · rw[if_pos q,q,show gs L i i=L.getD 0 0 from gst i]; grind
      · rw[if_neg q]
        rcases Nat.lt_or_gt_of_ne q with z | z
        · rw[gsl i k z]; grind
        · rw[gso i k ⋯]; grind
    rw[s1,Rg.Sg_one,if_pos ⋯] at h;have eq:Q.getD k 0=rsd (L.getD 0 0) g*U.getD k 0:=can (by
      have h:rsd (L.getD 0 0) g*L.getD 0 0*U.getD k 0=Q.getD k 0*L.getD 0 0:=h;generalize L.getD 0 0=c at *;grind)
    rw[eq];have a:=QN.mulN (ZfN qc g) (Zbk qU k);exact a.mono ⋯
  rcases (by omega:g=0\/g=1\/g=2) with rfl | rfl | rfl
  · have h0:=co (0+d) ⋯
    have ek:k=0:=⋯;subst ek;have h0:(1:κ.F)*L.getD d 0*U.getD (0+d) 0=0+Q.getD 0 0*gs L 0 (0+d):=h0;rw[gst] at h0;have e0:Q.getD 0 0=U.getD (0+d) 0:=can (by
      generalize L.getD d 0=c at *;grind)
    rw[e0,Nat.pow_zero,Wv,Nat.pow_zero,Wv];exact (Zbk qU _).mono ⋯
  · have h0:=co (0+d) ⋯
    have h1:=co (1+d) ⋯;have h0:(1:κ.F)*L.getD d 0*L.getD d 0*U.getD (0+d) 0=0+Q.getD 0 0*gs L 0 (0+d)+Q.getD 1 0*gs L 1 (0+d):=h0;have h1:(1:κ.F)*L.getD d 0*L.getD d 0*U.getD (1+d) 0=0+Q.getD 0 0*gs L 0 (1+d)+Q.getD 1 0*gs L 1 (1+d):=h1;rw[gst] at h0;rw[gst,gso 0 (1+d) ⋯] at h1;have qm:=Zrk qL 1 (0+d);have e1:Q.getD 1 0=L.getD d 0*U.getD (1+d) 0:=can (by
      generalize L.getD d 0=c at *;grind)
    have e0:Q.getD 0 0=L.getD d 0*U.getD (0+d) 0-gs L 1 (0+d)*U.getD (1+d) 0:=can (by
      rw[e1] at h0;generalize L.getD d 0=c at *;grind)
    have pD:(0:Int)<((Dl*Du:Nat):Int):=by have:=Q9 dl du; omega
    rw[U7,U7];rcases (by omega:k=0\/k=1) with rfl | rfl
    · rw[e0]
      exact (QN.sub pD (QN.mulN qc (Zbk qU _)) (QN.mulN qm (Zbk qU _))).mono ⋯
    · rw[e1]
      exact (QN.mulN qc (Zbk qU _)).mono ⋯
  · have d1:d=1:=⋯
    subst d1;have h0:=co (0+1) ⋯;have h1:=co (1+1) ⋯;have h2:=co (2+1) ⋯;have h0:(1:κ.F)*L.getD 1 0*L.getD 1 0*L.getD 1 0*U.getD (0+1) 0=0+Q.getD 0 0*gs L 0 (0+1)+Q.getD 1 0*gs L 1 (0+1)+Q.getD 2 0*gs L 2 (0+1):=h0;have h1:(1:κ.F)*L.getD 1 0*L.getD 1 0*L.getD 1 0*U.getD (1+1) 0=0+Q.getD 0 0*gs L 0 (1+1)+Q.getD 1 0*gs L 1 (1+1)+Q.getD 2 0*gs L 2 (1+1):=h1;have h2:(1:κ.F)*L.getD 1 0*L.getD 1 0*L.getD 1 0*U.getD (2+1) 0=0+Q.getD 0 0*gs L 0 (2+1)+Q.getD 1 0*gs L 1 (2+1)+Q.getD 2 0*gs L 2 (2+1):=h2;have g1:gs L 1 (0+1)=L.getD 0 0:=by unfold gs; rw[if_pos ⋯]
    have g2:gs L 2 (1+1)=L.getD 0 0:=by unfold gs; rw[if_pos ⋯]
    rw[gst,g1,gsl 2 (0+1) ⋯] at h0;rw[gst,g2,gso 0 (1+1) ⋯] at h1;rw[gst,gso 0 (2+1) ⋯,gso 1 (2+1) ⋯] at h2;have qm:=Zbk qL 0;have e2:Q.getD 2 0=L.getD 1 0*(L.getD 1 0*U.getD (2+1) 0):=can (by
      generalize L.getD 1 0=c at *;grind)
    have e1:Q.getD 1 0=L.getD 1 0*(L.getD 1 0*U.getD (1+1) 0)-L.getD 1 0*(L.getD 0 0*U.getD (2+1) 0):=can (by
      rw[e2] at h1;generalize L.getD 1 0=c at *;grind)
    have e0:Q.getD 0 0=L.getD 1 0*(L.getD 1 0*U.getD (0+1) 0)-L.getD 0 0*(L.getD 1 0*U.getD (1+1) 0)+L.getD 0 0*(L.getD 0 0*U.getD (2+1) 0):=can (by
      rw[e1] at h0;generalize L.getD 1 0=c at *;grind)
    have pD:(0:Int)<((Dl*(Dl*Du):Nat):Int):=by have:=Q9 dl (Q9 dl du); omega
    have two:∀(a b u:κ.F),QN κ (Dl:Int) Sl a->QN κ (Dl:Int) Sl b->QN κ (Du:Int) Su u->QN κ ((Dl*(Dl*Du):Nat):Int) (Sl*(Sl*Su)) (a*(b*u)):=λa b u qa qb qu=>QN.mulN qa (QN.mulN qb qu);rw[show Dl^2*Du=Dl*(Dl*Du) by rw[Qq,U7]; grind,show Sl^2*Su=Sl*(Sl*Su) by rw[Qq,U7]; grind];rcases (by omega:k=0\/k=1\/k=2) with rfl | rfl | rfl
    · rw[e0]
      exact (QN.add pD (QN.sub pD (two _ _ _ qc qc (Zbk qU _)) (two _ _ _ qm qc (Zbk qU _))) (two _ _ _ qm qm (Zbk qU _))).mono ⋯
    · rw[e1]
      exact (QN.sub pD (two _ _ _ qc qc (Zbk qU _)) (two _ _ _ qc qm (Zbk qU _))).mono ⋯
    · rw[e2]
      exact (two _ _ _ qc qc (Zbk qU _)).mono ⋯
end
inductive Ze5 (CF CR:Addr) (vs:List V) (H:Hp) (Q:VK) (zE:XK):Prop
 |mk (κ:KX) (s:Addr) (u v:V) (x y:κ.F) (_:vs=[.ref s,u,v]) (_:KdX CF CR κ H s) (_:NR κ H u x) (_:NR κ H v y) (_:y≠0) (_:B1 κ x) (_:B1 κ (Fd.inv y)) (_:∀H' t,Same H H'->NR κ H' t (x*Fd.inv y)->Q t H'):Ze5 CF CR vs H Q zE
def Zjx(P:Program)(w:World)(K:ZZfg)(mg:ZZmg)(base:Heap)(CF CR:Addr):Prop :=
 ∀(κ:KX) (H:Hp) (s:Addr),KdX CF CR κ H s->∃C dx fs ps dvs sp,H s=some (.ins C dx fs)/\Cls K C/\HasMX P w K mg base C "over" 5 ps dvs sp/\fs.lookup ("over":Str)=none/\dvs=[] ∧
  ∀(H':Hp) (u v:V) (x y:κ.F) (Q:VK) (E:XK),Same H H'->NR κ H' u x->NR κ H' v y->y≠0->B1 κ x->B1 κ (Fd.inv y)->(∀t H'',Same H' H''->NR κ H'' t (x*Fd.inv y)->Q t H'')->sp [.ref s,u,v] H' Q E
inductive Zec (CF CR:Addr) (vs:List V) (H:Hp) (Q:VK) (zE:XK):Prop
 |mk (κ:KX) (s:Addr) (v:V) (x:κ.F) (n D M:Nat) (_:vs=[.ref s,v,.int (n:Int)]) (_:KdX CF CR κ H s) (_:NR κ H v x) (_:n<=60) (_:QN κ (D:Int) M x) (_:0<D) (_:0<M) (_:D^n<2^3000) (_:M^n<2^3000) (_:D<2^3000) (_:M<2^3000) (_:∀H' t,Same H H'->NR κ H' t (rsd x n)->Q t H'):Zec CF CR vs H Q zE
inductive ZiH (CF CR:Addr) (vs:List V) (H:Hp) (Q:VK) (zE:XK):Prop
 |mk (κ:KX) (s fa:Addr) (xs:List V) (F:ZZlk κ) (D M:Nat) (_:vs=[.ref s,.ref fa]) (_:KdX CF CR κ H s) (_:PolL κ H fa xs F) (_:(∀x∈F,QN κ (D:Int) M x)) (_:0<D) (_:D<2^3000) (_:∀(H':Hp) (R:Addr) (v:V) (y:κ.F),Same H H'->H R=none->PolL κ H' R [v] [y]->y≠0->QN κ 1 D y->(∀x∈F,QN κ 1 M (y*x))->Q (.ref R) H'):ZiH CF CR vs H Q zE
theorem Zna{κ:KX}{F:ZZlk κ}{D M:Nat}{A:Int}(hD:0<D)(h:ZnB κ F A)(q:∀x∈F,QN κ (D:Int) M x){y:κ.F}(hy:NumV κ A y):y≠0/\QN κ 1 D y/\∀x∈F,QN κ 1 M (y*x):=by
 cases κ with
 |r p hp =>
  have h:A=1:=h;subst h;have e:y=K1 (.r p hp):=hy.uniq ZdL;exact ⟨by rw[e];exact ZdP (κ:=.r p hp),trivial,λ_ _=>trivial⟩
 |q =>
  obtain ⟨a0,ad,am⟩:=h;have dv:A ∣ (D:Int):=am D λx hx=>by
   obtain ⟨X,e,_⟩:=q x hx;have e:x=Rat.divInt X (D:Int):=e;rw[e];exact (Zb4 X ⋯).1
  have le:A.natAbs<=D:=by
   have:=Int.le_of_dvd ⋯ dv;omega
  have ey:y=Rat.divInt A 1:=by
   rw[<-W3 y,hy.1,hy.2];rfl
  refine ⟨λz=>?_,⟨A,ey,le⟩,λx hx=>?_⟩
  ·have z:y=(0:Rat):=z;have:=hy.1;rw[z] at this;have:(0:Int)=A:=this;omega
  ·obtain ⟨X,e,l⟩:=q x hx;have e:x=Rat.divInt X (D:Int):=e;obtain ⟨c,hc⟩:=ad x hx;have c0:0<c:=by
    have:(0:Int)<(x.den:Int):=by have:=x.den_pos;omega
    refine Uv λz=>?_;have:=Int.mul_nonpos_of_nonneg_of_nonpos (Int.le_of_lt this) z;omega
   refine ⟨c*x.num,?_,?_⟩
   ·show (y*x:Rat)=Rat.divInt (c*x.num) 1;rw[ey]
    conv=>lhs;rw[<-W3 x]
    have d0:(x.den:Int)≠0:=by have:=x.den_pos;omega
    rw[U2,W9 ⋯ ∅,hc];grind
   ·have h1:=Zfv X (show 0<(D:Int) by omega);rw[<-e] at h1;have h2:(c*x.num)*(D:Int)=X*A:=by
     rw[W0,h1,hc];grind
    have h3:(c*x.num).natAbs*D=X.natAbs*A.natAbs:=by
     have:=congrArg Int.natAbs h2;rw[Qr (c*x.num),Qr X,Qj] at this;exact this
    have h4:X.natAbs*A.natAbs<=M*D:=Qm l le;rw[<-h3] at h4;exact Nat.le_of_mul_le_mul_right h4 hD
section
variable{P:Program}{w:World}{K:ZZfg}{mg:ZZmg}{base:Heap}{CP CF CR cN cF:Addr}
theorem ZhW:FnScope ["self","one","other"] ["self","one","other"] (Zah ZcB):=‹2›
theorem Zjy{C:Addr}(h:HereM K C "over" "Kind.over" ZcB) (mt:ZfV P w K mg base CF CR "times" (λ_ x y=>x*y)) (mb:Zd3 P w K mg base CF CR):HasMX P w K mg base C "over" 5 ["self","one","other"] [] (Ze5 CF CR):=by
 refine h.hasMX (λ_ _ F=>F.b3 λ_ _ _ _ _ _ _ _ _=>rfl) λf fd F=>F.okx ZhW (λvs H Q E h=>?_) (λcdv A outer s H vs Q E hr h=>?_)
 ·obtain ⟨_,_,_,_,_,_,rfl,_⟩:=h
  rfl
 obtain ⟨κ,sk,u,v,x,y,rfl,hk,nu,nv,y0,bx,by_,k⟩:=h;refine ⟨_,(Zae (Zal (Zaz (pv 0) hr (Zaa (pv 1) (Zaa (ZaI (pv 0) Zff hr (Zaa (pv 2) Zab)) Zab))))),?_⟩;obtain ⟨Ct,dxt,fst,pst,dvt,spt,t1,t2,t3,t4,rfl,t5⟩:=mt κ H sk hk;obtain ⟨Cb,dxb,fsb,psb,dvb,spb,b1,b2,b3,b4,rfl,b5⟩:=mb κ H sk hk;refine ⟨_,rfl,sk,Ct,dxt,fst,pst,_,spt,rfl,t1,t2,t3.mono ∅,t4,_,rfl,_,rfl,sk,Cb,dxb,fsb,psb,_,spb,rfl,b1,b2,b3.mono ∅,b4,_,rfl,b5 H v y _ _ (Same.refl _) nv y0 λt H1 S1 nt=>?_⟩;exact t5 H1 u t _ _ _ S1 (nu.same S1) nt bx by_ λt2 H2 S2 nt2=>k H2 t2 (S1.trans S2) nt2
theorem ZlR(kd:Kd K mg CF CR)(hF:HasMX P w K mg base CF "over" 5 ["self","one","other"] [] (Ze5 CF CR)) (hR:HasMX P w K mg base CR "over" 5 ["self","one","other"] [] (Ze5 CF CR)):Zjx P w K mg base CF CR:=by
 intro κ H s hk;have hk0:=hk
 cases κ with
 |q =>
  obtain ⟨dx,h⟩:=hk;exact ⟨CF,dx,[],_,_,_,h,kd.clF,hF,rfl,rfl,λH' u v x y Q E S' nu nv y0 bx by_ k=>⟨.q,s,u,v,x,y,rfl,hk0.same S',nu,nv,y0,bx,by_,λH'' t S nt=>k t H'' S nt⟩⟩
 |r p hp =>
  obtain ⟨dx,h⟩:=hk;exact ⟨CR,dx,fsR p,_,_,_,h,kd.clR,hR,Zc7 _ ∅,rfl,λH' u v x y Q E S' nu nv y0 bx by_ k=>⟨.r p hp,s,u,v,x,y,rfl,hk0.same S',nu,nv,y0,bx,by_,λH'' t S nt=>k t H'' S nt⟩⟩
theorem sc_raised:FnScope ["kind","number","count","product","turn"] ["kind","number","count"] (Zah Zgw):=‹2›
theorem ZlS(h:Here K mg "raised" Zgw) (T:Nm mg) (mn:ZcL P w K mg base CF CR) (mt:ZfV P w K mg base CF CR "times" (λ_ x y=>x*y)):Has P w K mg base "raised" 4 ["kind","number","count"] (Zec CF CR):=by
 refine h.has (λ_ _ F=>F.b3 λ_ _ _ _ _ _ _ _ _=>rfl) λf fd F=>F.ok sc_raised (λvs H Q E h=>?_) (λcdv A outer s H vs Q E hr h=>?_)
 ·obtain ⟨_,_,_,_,_,_,_,rfl,_⟩:=h
  rfl
 obtain ⟨κ,sk,v,x,n,D,M,rfl,hk,nv,n60,qx,d0,m0,bD,bM,bD1,bM1,k⟩:=h;have nd:=sc_raised.nd;refine ⟨_,(Zac (Zak (i:=3) nd rfl (Or.inl rfl) (ZaI (pv 0) Zcr hr (Zaa Zad Zab)))
  (Zac (Za2 PassesOwn.never rfl (ZaE (by rfl) T.range (Zaa (pv 2) Zab)) (Zaq (i:=4) nd rfl (Or.inl rfl)) (Zae (Zak (i:=3) nd rfl (Or.inl rfl) (Zaz (pv 0) hr (Zaa (pv 3) (Zaa (pv 1) Zab))))))
  (Zae (Zal (pv 3))))),?_⟩
 obtain ⟨C,dx,fs,ps,dvs,sp,c1,c2,c3,c4,rfl,c5⟩:=mn κ H sk hk;refine ⟨_,rfl,sk,C,dx,fs,ps,_,sp,rfl,c1,c2,c3.mono ∅,c4,c5 H 1 1 _ _ (Same.refl _) ZdL λv1 H1 S1 n1=>?_⟩;refine ⟨_,rfl,(n:Int),rfl,⋯,⋯,?_⟩;rw[Qu];refine Zbi (lo:=0) (n:=n) (λq σ H2=>∃(z4:Option V) (u:V),σ=[some (.ref sk),some v,some (.int (n:Int)),some u,z4]/\Same H H2/\NR κ H2 u (rsd x q)) ⟨_,v1,rfl,S1,n1⟩ ?_ ?_
 ·rintro q σ H2 hq ⟨z4,u,rfl,S2,nu⟩;obtain ⟨Ct,dxt,fst,pst,dvt,spt,t1,t2,t3,t4,rfl,t5⟩:=mt κ H2 sk (hk.same S2);have pq:D^q<=D^n:=Q7 d0 ⋯;have pm:M^q<=M^n:=Q7 m0 ⋯;refine ⟨_,rfl,sk,Ct,dxt,fst,pst,_,spt,rfl,t1,t2,t3.mono ∅,t4,_,rfl,_,rfl,t5 H2 u v _ _ _ (Same.refl _) nu (nv.same S2) (ZeT (ZfN qx q) (Qd d0) (Q5 pq bD) (Q5 pm bM)) (ZeT qx d0 bD1 bM1) λt H3 S3 nt=>?_⟩;exact ⟨_,t,rfl,S2.trans S3,nt⟩
 ·rintro σ H2 ⟨z4,u,rfl,S2,nu⟩;exact ⟨_,rfl,k H2 u S2 nu⟩
theorem ZeW:FnScope ["kind","f"] ["kind","f"] (Zah Zb2):=‹2›
theorem ZoZ(h:Here K mg "bottom_factor" Zb2) (mn:ZcL P w K mg base CF CR) (mo:Ziq P w K mg base CF CR):Has P w K mg base "bottom_factor" 4 ["kind", "f"] (ZiH CF CR):=by
  refine h.has (λ_ _ F=>F.b2 λ_ _ _ _ _ _ _ _=>rfl) λf fd F=>F.ok ZeW (λvs H Q E h=>?_) (λcdv A outer s H vs Q E hr h=>?_)
  · obtain ⟨_,_,_,_,_,_,_,rfl,_⟩:=h
    rfl
  obtain ⟨κ,sk,fa,xs,F,D,M,rfl,hk,pF,qF,d0,dB,k⟩:=h;refine ⟨_,(Zae (Zal (ZaN (Zaa (ZaI (pv 0) Zcr hr (Zaa (Zaz (pv 0) hr (Zaa (pv 1) Zab)) Zab)) Zab)))),?_⟩;obtain ⟨C',dx',fs',ps',dvs',sp',d1,d2,d3,d4,rfl,d5⟩:=mo κ H sk hk;obtain ⟨C,dx,fs,ps,dvs,sp,c1,c2,c3,c4,rfl,c5⟩:=mn κ H sk hk;refine ⟨_,rfl,sk,C,dx,fs,ps,_,sp,rfl,c1,c2,c3.mono ∅,c4,_,rfl,sk,C',dx',fs',ps',_,sp',rfl,d1,d2,d3.mono ∅,d4,_,rfl,d5 fa xs F (D:Int) _ pF.l pF.al ⋯ ((Bits.of (n:=3000) (by rw[Qj]; exact dB)).up ∅) (λx hx=>?_) λA hA=>?_⟩
  · have q:=qF x hx
    cases κ with
    | r p hp=>exact trivial
    | q =>
      obtain ⟨X,e,_⟩:=q;have e:x=Rat.divInt X (D:Int):=e;show ((Rat.den x:Nat):Int) ∣ _;rw[e];exact (Zb4 X ⋯).1
  · obtain ⟨y,hy⟩:∃y:κ.F,NumV κ A y:=by
      cases κ with
      | q=>exact ⟨(A:Rat),rfl,rfl⟩
      | r p hp =>
        have e:A=1:=hA;rw[e];exact ⟨K1 _,ZdL⟩
    refine c5 H A y _ _ (Same.refl _) hy λv H1 S1 nv=>⟨(by show 1<=sizeLine; decide),λR nR=>?_⟩;have SR:=Zag nR (.lst [v]);obtain ⟨y0,q1,q2⟩:=Zna d0 hA qF hy;exact k _ R v y (S1.trans SR) (S1.free nR) ⟨Zaf,.one (nv.same SR)⟩ y0 q1 q2
end
structure R3 (κ:KX) (H:Hp) (a:Addr) (as:ZZla) (R:ZZll κ):Prop where
 l:H a=some (.lst (as.map V.ref))
 r:RowsX κ H as R
 n:R.length=1
theorem R3.same{κ:KX}{H H':Hp}{a:Addr}{as:ZZla}{R:ZZll κ}(h:R3 κ H a as R)(S:Same H H'):R3 κ H' a as R:=⟨S _ _ h.l,h.r.same S,h.n⟩
theorem R3.get{κ:KX}{H:Hp}{a:Addr}{as:ZZla}{R:ZZll κ}(h:R3 κ H a as R){i:Nat}(hi:i<1):∃b xs,as[i]?=some b/\PolL κ H b xs (R.getD i []):=by
 have n:=h.n;obtain ⟨b,xs,g,hx,al⟩:=h.r.get (i:=i) ⋯;rw[<-show R.getD i []=R[i] from Zcc (Q4 ⋯)] at al;exact ⟨b,xs,g,hx,al⟩
theorem Zsz{κ:KX}(h:κ ≠ .q){D:Int}{M:Nat}{x:κ.F}:QN κ D M x:=by
 cases κ with
 |q=>exact absurd rfl h
 |r p hp=>exact trivial
theorem Za3{κ:KX}{R:ZZll κ}{i:Nat}(h:i<R.length):R.getD i []∈R:=by
 rw[Q1,Q4 h];exact Ql _
theorem Zqm{κ:KX}{F:ZZlk κ}{d:Nat}(t:Trm F)(h:∀k,d<=k->F.getD k 0=0):F.length<=d:=by
 rcases t with z|z
 ·omega
 ·refine Nat.le_of_not_lt λq=>z (h _ ⋯)
inductive ZfO (CF CR:Addr) (vs:List V) (H:Hp) (Q:VK) (zE:XK):Prop
 |mk (κ:KX) (s ua la:Addr) (lv hv:V) (as bs:ZZla) (U L:ZZll κ) (x y:κ.F) (g d Du Su Dl Sl Da Sa Dh Sh:Nat) (_:vs=[.ref s,.ref ua,.ref la,lv,hv]) (_:KdX CF CR κ H s) (_:R3 κ H ua as U) (_:R3 κ H la bs L) (_:(L.getD 0 []).length=d+1) (_:(L.getD 0 []).getD d 0≠0) (_:(U.getD 0 []).length=d+1+g) (_:(∀f∈U,f.length<=20)) (_:(∀f∈L,f.length<=20)) (_:(κ = .q->g+d<=3)) (_:NR κ H lv x) (_:NR κ H hv y) (_:x≠0) (_:y≠0) (_:AllR (QN κ (Du:Int) Su) U) (_:AllR (QN κ (Dl:Int) Sl) L) (_:QN κ (Da:Int) Sa x) (_:QN κ (Dh:Int) Sh y) (_:FrSz Du Su Dl Sl Da Sa Dh Sh g) (_:∀(H':Hp) (na:Addr) (ns:ZZla) (N:ZZll κ) (c α:κ.F) (Qt:ZZlk κ) (D':Nat),Same H H'->R3 κ H' na ns N->c≠0->α≠0->(∀i,i<1->sr (N.getD i [])=cn c*(cn α*sr (U.getD i [])-sr Qt*sr (L.getD i [])))->(∀f∈N,Trm f)->(N.getD 0 []).length<=d->(∀i,i<1->(N.getD i []).length<=max (U.getD i []).length ((L.getD i []).length+g))->0<D'->D'<=Sa*Sh^g*(Dl^(g+1)*Du)->AllR (QN κ (D':Int) (Da*Dh^g*(25*(Sl^(g+1)*Su)))) N->Q (.ref na) H'):ZfO CF CR vs H Q zE
theorem Zg8{ys:List V}{m:Nat}{v:V}(hv:ys[m]?=some v)(l:ys.length=m+1):atI ys (-1)=some v:=by
 unfold atI;rw[Zjh ⋯];show ys[ys.length-1]?=_;rw[show ys.length-1=m by omega];exact hv
theorem ZrP{i:Nat}{v:V}{σ:L2.St}{H0:Hp}{Kc:L2.St->Hp->Prop}(C:Hp->Prop)(h:∀H,C H->Zdz i v σ H Kc)(c:C H0):Zdz i v σ H0 Kc:=h H0 c
inductive FlA (κ:KX) (sk ua la:Addr) (lv hv:V) (po:Addr) (g:Nat) (fa qa sa an:Addr) (H9:Hp) (c α:κ.F) (U L:ZZll κ) (Qt:ZZlk κ) (a0 Dl Du Da Dh Sl Su:Nat) (i:Nat) (σ:L2.St) (Hb:Hp):Prop
 |mk (z11 z12:Option V) (ns:ZZla) (N:ZZll κ) (_:σ=[some (.ref sk),some (.ref ua),some (.ref la),some lv,some hv,some (.ref po),some (.int (g:Int)),some (.ref fa),some (.ref qa),some (.ref sa),some (.ref an),z11,z12]) (_:Same H9 Hb) (_:Hb an=some (.lst (ns.map V.ref))) (_:RowsX κ Hb ns N) (_:N.length=i) (_:an∉ns) (_:∀j,j<i->sr (N.getD j [])=cn c*(cn α*sr (U.getD j [])-sr Qt*sr (L.getD j []))/\Trm (N.getD j [])/\(N.getD j []).length<=max (U.getD j []).length ((L.getD j []).length+g)/\∀x∈N.getD j [],QN κ ((a0*(Dl^(g+1)*Du):Nat):Int) (Da*Dh^g*(25*(Sl^(g+1)*Su))) x):FlA κ  sk ua la  lv hv  po  g  fa qa sa an  H9  c α  U L  Qt  a0 Dl Du Da Dh Sl Su  i σ Hb
section
variable{P:Program}{w:World}{K:ZZfg}{mg:ZZmg}{base:Heap}{CP CF CR cN cF:Addr}
theorem sc_following_row:FnScope ["kind","upper","lower","last","height","polys","gap","factor","quotient","shrink","answer","one","other"] ["kind","upper","lower","last","height"] (Zah Zb1):=‹2›
theorem ZlT(h:Here K mg "following_row" Zb1) (T:Nm mg) (Tz:mg "zip"=none) (pc:Pc K mg CP) (hI:HasI P w K mg base CP 1 ["self","under"] (Zeb CP)) (mt:ZfV P w K mg base CF CR "times" (λ_ x y=>x*y)) (mb:Zd3 P w K mg base CF CR) (hT:HasM P w K mg base CP "times" 6 ["self","one","other"] [] (Zde CP CF CR)) (hM:HasM P w K mg base CP "minus" 6 ["self","one","other"] [] (ZfM CP CF CR)) (h_raised:Has P w K mg base "raised" 6 ["kind","number","count"] (Zec CF CR)) (h_divided:HasX P w K mg base "divided" 6 ["kind","f","g"] (ZeC CF CR cN)):Has P w K mg base "following_row" 7 ["kind","upper","lower","last","height"] (ZfO CF CR):=by
 refine h.has (λf fd F=>F.binds λ_ _ _ _ _ _ us hl=>by obtain ⟨_,_,_,_,_,rfl⟩:=ZrJ hl;exact rfl) λf fd F=>F.ok sc_following_row (λvs H Q E h=>?_) (λcdv A outer s H vs Q E hr h=>?_)
 ·obtain ⟨_,_,_,_,_,_,_,_,_,_,_,_,_,_,_,_,_,_,_,_,_,_,rfl,_⟩:=h
  rfl
 obtain ⟨κ,sk,ua,la,lv,hv,as,bs,U,L,x,y,g,d,Du,Su,Dl,Sl,Da,Sa,Dh,Sh,rfl,hk,rU,rL,lL0,c0,lU0,lU,lL,hq,nx,ny,x0,y0,qU,qL,qx,qy,z,kk⟩:=h;have nd:=sc_following_row.nd;refine ⟨_,(Zac (Zak (i:=5) nd rfl (Or.inl rfl) (ZeX hI (hr.mono ∅) (by rfl) pc.m (Zaa (pv 0) Zab)))
  (Zac (Zak (i:=6) nd rfl (Or.inl rfl) (Zan Zbe (Zaj Zai (by rfl) T.len boot_len (Zaa (Zao Zap (pv 1) Zad (λ_ _=>rfl)) Zab)) (Zaj Zai (by rfl) T.len boot_len (Zaa (Zao Zap (pv 2) Zad (λ_ _=>rfl)) Zab))))
  (Zac (Zak (i:=7) nd rfl (Or.inl rfl) (ZaN (Zaa (Zam h_raised hr (by rfl) (Zaa (pv 0) (Zaa (Zao Zap (Zao Zap (pv 2) Zad (λ_ _=>rfl)) (Zds ZbT Zad) (λ_ _=>rfl)) (Zaa (Zan ZaM (pv 6) Zad) Zab)))) Zab)))
  (Zac (Zak (i:=8) nd rfl (Or.inl rfl) (Zao Zax (ZbA h_divided Zcr hr (by rfl) (Zaa (pv 0) (Zaa (Zaz (pv 5) hr (Zaa (pv 7) (Zaa (Zao Zap (pv 1) Zad (λ_ _=>rfl)) Zab))) (Zaa (Zao Zap (pv 2) Zad (λ_ _=>rfl)) Zab)))) Zad (λ_ _=>rfl)))
  (Zac (Zak (i:=9) nd rfl (Or.inl rfl) (ZaN (Zaa (ZaI (pv 0) Zcr hr (Zaa (Zaz (pv 0) hr (Zaa (pv 3) (Zaa (Zam h_raised hr (by rfl) (Zaa (pv 0) (Zaa (pv 4) (Zaa (pv 6) Zab)))) Zab))) Zab)) Zab)))
  (Zac (Zak (i:=10) nd rfl (Or.inl rfl) (ZaN Zab))
  (Zac (Za2 PassesOwn.never rfl (ZhC (by rfl) Tz (Zaa (pv 1) (Zaa (pv 2) Zab))) (Zkk rfl (ZbJ (Zaq (i:=11) nd rfl (Or.inl rfl)) (ZbJ (Zaq (i:=12) nd rfl (Or.inl rfl)) Ze7))) (Zae (ZaT (ZeU PySem.F.plainAttrs_list PySem.F.slot_list_append PySem.F.type_list_append Za6 (pv 10) (Zaa (Zaz (pv 5) hr (Zaa (pv 9) (Zaa (Zaz (pv 5) hr (Zaa (Zaz (pv 5) hr (Zaa (pv 7) (Zaa (pv 11) Zab))) (Zaa (Zaz (pv 5) hr (Zaa (pv 8) (Zaa (pv 12) Zab))) Zab))) Zab))) Zab)))))
  (Zae (Zal (pv 10)))))))))),?_⟩
 have nU:=rU.n;have nL:=rL.n;have hU20:=lU _ (Za3 (R:=U) (i:=0) ⋯);have hL20:=lL _ (Za3 (R:=L) (i:=0) ⋯);have g18:g<=19:=⋯;have p3:(10^200:Nat)<2^3000:=∅;have p5:(10^500:Nat)<2^3000:=∅;refine ⟨_,rfl,λpo dxp npo ndxp nexp=>⟨po,dxp,sk,rfl,Zaf,rfl,?_⟩⟩;have Sx:∀o1 o2 o3,Same H (upd (upd (upd H dxp o1) po o2) po o3):=λ_ _ _ b o e=>by
  rw[Zau (Zay e npo),Zau (Zay e npo),Zau (Zay e ndxp)];exact e
 refine ZrP (i:=5) (C:=λH1=>Same H H1/\H1 po=some (.ins CP dxp [("under", .ref sk)])) ?first ?second
 case second=>exact ⟨Sx _ _ _,Zaf⟩
 rintro H1 ⟨S1,hpo⟩;have po1:∀ {H2},Same H1 H2->PoA CP CF CR κ H2 po:=fun {H2} S=>⟨dxp,sk,S _ _ hpo,(hk.same S1).same S⟩
 obtain ⟨u0,us,gu,pu⟩:=rU.get (i:=0) ∅;obtain ⟨l0,ls,gl,pl⟩:=rL.get (i:=0) ∅;have lus:=pu.al.1;have lls:=pl.al.1;refine ⟨_,rfl,ua,_,0,_,rfl,rfl,SqL.of (S1 _ _ rU.l),ZaR (i:=0) gu,u0,_,rfl,.inl (SqL.of (S1 _ _ pu.l)),_,rfl,la,_,0,_,rfl,rfl,SqL.of (S1 _ _ rL.l),ZaR (i:=0) gl,l0,_,rfl,.inl (SqL.of (S1 _ _ pl.l)),_,_,rfl,rfl,?_⟩;show Zdz 6 (V.int ((us.length:Int)-(ls.length:Int))) _ H1 _;rw[show (us.length:Int)-(ls.length:Int)=(g:Int) by omega];obtain ⟨cv,hcv,ncv⟩:=Za1 pl.al (i:=d) ⋯;have qc:QN κ (Dl:Int) Sl ((L.getD 0 []).getD d 0):=Zbk (qL _ (Za3 ⋯)) d;have dl1:0<Dl^(g+1):=Qd z.dl;have sl1:0<Sl^(g+1):=Qd z.sl;have za:=z.a;have zb:=z.b;have aD:Dl^(g+1)<=10^200:=Q0 (Ub _ z.du) za;have aU:Du<=10^200:=Q0 (Ws _ dl1) za;have aM:Sl^(g+1)*Su<=10^500:=⋯;have aS:Sl^(g+1)<=10^500:=Q0 (Ub _ z.su) aM;have aSu:Su<=10^500:=Q0 (Ws _ sl1) aM;have aDl:Dl<=10^200:=Q0 (by rw[Qq];exact Ws _ (Qd z.dl)) aD;have aSl:Sl<=10^500:=Q0 (by rw[Qq];exact Ws _ (Qd z.sl)) aS;refine ⟨_,rfl,_,rfl,la,_,0,_,rfl,rfl,SqL.of (S1 _ _ rL.l),ZaR (i:=0) gl,_,rfl,l0,_,_,cv,rfl,rfl,SqL.of (S1 _ _ pl.l),Zg8 hcv ⋯,_,rfl,_,_,rfl,rfl,κ,sk,cv,_,g+1,Dl,Sl,rfl,hk.same S1,ncv.same S1,⋯,qc,z.dl,z.sl,Q5 aD p3,Q5 aS p5,Q5 aDl p3,Q5 aSl p5,λH2 fv S2 nfv=>⟨(by show 1<=sizeLine;decide),λfa nfa=>?_⟩⟩;have Sf:=Zag nfa (.lst [fv]);have pf:PolL κ (upd H2 fa (.lst [fv])) fa [fv] [rsd ((L.getD 0 []).getD d 0) (g+1)]:=⟨Zaf,.one (nfv.same Sf)⟩;generalize upd H2 fa (.lst [fv])=H3 at *;have S13:=S2.trans Sf;have S3:=S1.trans S13;have α0:=ZhV c0 (g+1);have qα:=ZfN qc (g+1);obtain ⟨α,eα⟩:∃α,α=rsd ((L.getD 0 []).getD d 0) (g+1):=⟨_,rfl⟩;rw[<-eα] at pf α0 qα;have qu0:∀x∈U.getD 0 [],QN κ (Du:Int) Su x:=qU _ (Za3 ⋯);have ql0:∀x∈L.getD 0 [],QN κ (Dl:Int) Sl x:=qL _ (Za3 ⋯);have qf1:∀x∈[α],QN κ ((Dl^(g+1):Nat):Int) (Sl^(g+1)) x:=λx hx=>by rw[Q6.mp hx];exact qα
 refine ⟨_,rfl,_,rfl,po,CP,dxp,_,_,_,_,rfl,S13 _ _ hpo,pc.cl,hT,rfl,_,rfl,_,rfl,ua,_,0,_,rfl,rfl,SqL.of (S3 _ _ rU.l),ZaR (i:=0) gu,κ,po,fa,u0,_,us,_,_,_,_,_,_,rfl,po1 S13,pf,pu.same S3,by show 1<=90;decide,⋯,qf1,qu0,dl1,aD,z.du,aU,aS,aSu,λH4 pa ps Pl S4 npa pP tP eP lP=>?_⟩;have S34:=S3.trans S4;have e1:sr [α]=cn α:=rfl;rw[e1] at eP;have lP':Pl.length<=d+1+g:=by
  have:Pl.length<=1+(U.getD 0 []).length-1:=lP;omega
 have qP:∀x∈Pl,QN κ ((Dl^(g+1)*Du:Nat):Int) (Sl^(g+1)*Su) x:=λx hx=>by
  obtain ⟨j,_,rfl⟩:=ZbL hx;rw[<-ZbZ,eP,W1];exact Zea qα qu0 j
 have tL:Trm (L.getD 0 []):=.inr (by rw[lL0,Wc];exact c0);have ND:0<Sl*Dl:=Q9 z.sl z.dl;have DS:0<2*(Dl*Sl):=by have:=Q9 z.dl z.sl;omega
 have tt:Pl.length+1-(L.getD 0 []).length<=g+1:=⋯;have dvi:DvIn Pl (L.getD 0 []) (Dl^(g+1)*Du) Dl (Sl^(g+1)*Su) Sl:=⟨⋯,⋯,tL,qP,ql0,Q9 dl1 z.du,z.dl,Q9 sl1 z.su,z.sl,z.dS,
  Q5 (Qk _ (Q7 ND tt)) z.c,Q5 (Qk _ (Q7 DS tt)) z.e,Q5 aDl p3,Q5 aSl p5⟩
 refine ⟨_,rfl,la,_,0,_,rfl,rfl,SqL.of (S34 _ _ rL.l),ZaR (i:=0) gl,κ,sk,pa,l0,ps,ls,Pl,_,_,_,_,_,rfl,hk.same S34,pP.l,pP.al,S34 _ _ pl.l,(pl.same S34).al,dvi,(λy=>⋯),λ_ H5 tp qa rra qv rv qs R a r S5 htp hqa hra aqv arv dvo nqa nra nqr=>?_⟩;refine ⟨tp,_,0,_,rfl,rfl,SqT.of htp,rfl,?_⟩;have S15:=S13.trans (S4.trans S5);have S05:=S1.trans S15;have ed:∀k,(sr Pl).c k=(sr qs.reverse*sr (L.getD 0 [])+sr (R.take d)).c k:=λk=>by
  rw[Rg.Ps.c_add,ZhU,ZbZ,ZbZ];exact ZnR lL0 rfl dvo.dv k
 have eQ:cn α*sr (U.getD 0 [])=sr qs.reverse*sr (L.getD 0 [])+sr (R.take d):=by
  rw[<-eP];exact Rg.Ps.ext ed
 have lQ:qs.reverse.length<=g+1:=by rw[Wr,dvo.dv.lq];exact tt
 have lRd:(R.take d).length<=d:=by rw[Qa];omega
 have qQ:∀x∈qs.reverse,QN κ ((Dl^g*Du:Nat):Int) (4*(Sl^g*Su)) x:=λx hx=>by
  obtain ⟨j,_,rfl⟩:=ZbL hx;exact Zm9 lL0 c0 lQ lRd hq z.du z.dl z.sl qu0 ql0 (by rw[<-eα];exact eQ) j
 have pQ:PolL κ H5 qa qv qs.reverse:=⟨hqa,aqv⟩;have nc:∀x∈qs.reverse,True:=λ_ _=>trivial;generalize qs.reverse=Qt at *;have zf:=z.f;have zh:=z.h;have dh1:0<Dh^g:=Qd z.dh;have sh1:0<Sh^g:=Qd z.sh;have fD:Dh^g<=10^200:=Q0 (Ws _ z.da) zf;have fS:Sh^g<=10^200:=Q0 (Ws _ z.sa) zh;have fA:Da<=10^200:=Q0 (Ub _ dh1) zf;have fB:Sa<=10^200:=Q0 (Ub _ sh1) zh;have zu:Da*Dh^g<=10^500:=Q0 zf ∅;have y1:=ZhV y0 g;have qy1:=ZfN qy g;have γ0:x*rsd y g≠0:=ZnX x0 y1;have qγ:QN κ ((Da*Dh^g:Nat):Int) (Sa*Sh^g) (x*rsd y g):=by rw[W1];exact qx.mul qy1
 obtain ⟨a0,a1,a2,qσ⟩:=ZhS (Q9 z.da dh1) (Q9 z.sa sh1) qγ γ0;have σ0:=Zjw γ0;obtain ⟨Cb,dxb,fsb,psb,dvb,spb,b1,b2,b3,b4,rfl,b5⟩:=mb κ H5 sk (hk.same S05);obtain ⟨Ct,dxt,fst,pst,dvt,spt,t1,t2,t3,t4,rfl,t5⟩:=mt κ H5 sk (hk.same S05);refine ⟨_,rfl,sk,Cb,dxb,fsb,psb,_,spb,rfl,b1,b2,b3.mono ∅,b4,_,rfl,sk,Ct,dxt,fst,pst,_,spt,rfl,t1,t2,t3.mono ∅,t4,_,rfl,_,rfl,_,rfl,_,rfl,κ,sk,hv,y,g,Dh,Sh,rfl,hk.same S05,ny.same S05,⋯,qy,z.dh,z.sh,Q5 fD p3,Q5 fS p3,?_,?_,λH6 bv S6 nbv=>?_⟩
 ·by_cases g0:g=0
  ·exact z.hD
  ·refine Q5 (Q0 ?_ fD) p3
   conv=>lhs;rw[<-U7 Dh]
   exact Q7 z.dh ⋯
 ·by_cases g0:g=0
  ·exact z.hS
  ·refine Q5 (Q0 ?_ fS) p3
   conv=>lhs;rw[<-U7 Sh]
   exact Q7 z.sh ⋯
 refine t5 H6 lv bv x (rsd y g) _ S6 ((nx.same S05).same S6) nbv (ZeT qx z.da (Q5 fA p3) (Q5 fB p3)) (ZeT qy1 dh1 (Q5 fD p3) (Q5 fS p3)) λtv H7 S7 ntv=>?_;refine b5 H7 tv (x*rsd y g) _ _ (S6.trans S7) ntv γ0 λsv H8 S8 nsv=>⟨(by show 1<=sizeLine;decide),λsa nsa=>?_⟩;have Ss:=Zag nsa (.lst [sv]);have psh:PolL κ (upd H8 sa (.lst [sv])) sa [sv] [Fd.inv (x*rsd y g)]:=⟨Zaf,.one (nsv.same Ss)⟩;generalize upd H8 sa (.lst [sv])=H9 at *;have S59:=S6.trans (S7.trans (S8.trans Ss));have S39:=S4.trans (S5.trans S59);have S19:=S15.trans S59;have S09:=S1.trans S19;generalize Fd.inv (x*rsd y g)=c at *;refine ⟨(by show 0<=sizeLine;decide),λan nan=>?_⟩;have Sa':=Zag nan (.lst []);have qan:=Zaf (H:=H9) (a:=an) (o:=.lst []);generalize upd H9 an (.lst [])=Ha at *;refine ⟨_,rfl,_,rfl,ua,la,rfl,⟨_,SqL.of (Sa' _ _ (S09 _ _ rU.l))⟩,⟨_,SqL.of (Sa' _ _ (S09 _ _ rL.l))⟩,?_⟩;refine ZkU (xs:=as.map V.ref) (ys:=bs.map V.ref) (λi σ Hb=>FlA κ  sk ua la  lv hv  po  g  fa qa sa an  H9  c α  U L  Qt  a0 Dl Du Da Dh Sl Su  i σ Hb) ⟨_,_,[],[],rfl,Sa',qan,.nil,rfl,(λz=>nomatch z),λj h=>⋯⟩ ?_ ?_ ?_
 ·rintro i σ Hb ⟨z11,z12,ns,N,rfl,Sb,-⟩;exact ⟨SqL.of (Sb _ _ (S09 _ _ rU.l)),SqL.of (Sb _ _ (S09 _ _ rL.l))⟩
 ·rintro i ux lx Tp σ Hb hux hlx nT ⟨z11,z12,ns,N,rfl,Sb,han,rN,lN,nin,iv⟩;obtain ⟨ui,hui,rfl⟩:=ZaA hux;obtain ⟨li,hli,rfl⟩:=ZaA hlx;have lias:=rU.r.1;have i3:i<1:=by have:=(Qo.mp hui).1;omega
  obtain ⟨ui',xs,gui,pui⟩:=rU.get i3;obtain ⟨li',ys,gli,pli⟩:=rL.get i3;rw[hui] at gui
  cases gui
  rw[hli] at gli
  cases gli
  have ST:=Zag nT (.tup [.ref ui,.ref li]);refine ⟨Tp,_,rfl,SqT.of Zaf,rfl,_,_,rfl,_,_,rfl,rfl,?_⟩;generalize upd Hb Tp (.tup [.ref ui,.ref li])=Hc at *;have S9c:=Sb.trans ST;have S0c:=S09.trans S9c;have S1c:=S19.trans S9c;have hanc:=ST _ _ han;have lui:=lU _ (Za3 (R:=U) (i:=i) ⋯);have lli:=lL _ (Za3 (R:=L) (i:=i) ⋯);have qui:∀x∈U.getD i [],QN κ (Du:Int) Su x:=qU _ (Za3 ⋯);have qli:∀x∈L.getD i [],QN κ (Dl:Int) Sl x:=qL _ (Za3 ⋯);have lq20:Qt.length<=20:=⋯;have bDg:Dl^g*Du<=10^200:=Q0 (Qp _ (Q7 z.dl ⋯)) za;have pSg:Sl^g*Su<=Sl^(g+1)*Su:=Qp _ (Q7 z.sl ⋯);have hpoc:=S1c _ _ hpo;refine ⟨_,rfl,.inl ⟨rfl,_,SqL.of hanc⟩,?_⟩;refine ⟨_,rfl,po,CP,dxp,_,_,_,_,rfl,hpoc,pc.cl,hT,rfl,_,rfl,_,rfl,po,CP,dxp,_,_,_,_,rfl,hpoc,pc.cl,hM,rfl,_,rfl,po,CP,dxp,_,_,_,_,rfl,hpoc,pc.cl,hT,rfl,_,rfl,_,rfl,κ,po,fa,ui,_,xs,_,_,_,_,_,_,rfl,po1 S1c,pf.same (S39.trans S9c),pui.same S0c,by show 1<=90;decide,⋯,qf1,qui,dl1,aD,z.du,aU,aS,aSu,λHd ta ts T1 Sd nta pT1 tT1 eT1 lT1=>?_⟩;rw[e1] at eT1;have lT1:T1.length<=1+(U.getD i []).length-1:=lT1;refine ⟨_,rfl,po,CP,dxp,_,_,_,_,rfl,Sd _ _ hpoc,pc.cl,hT,rfl,_,rfl,_,rfl,κ,po,qa,li,qv,ys,Qt,_,_,_,_,_,rfl,po1 (S1c.trans Sd),((pQ.same S59).same S9c).same Sd,(pli.same S0c).same Sd,⋯,⋯,qQ,qli,Q9 (Qd z.dl) z.du,bDg,z.dl,aDl,⋯,aSl,λHe tb' ts2 T2 Se ntb pT2 tT2 eT2 lT2=>?_⟩;have q1:∀x∈T1,QN κ ((Dl^(g+1)*Du:Nat):Int) (Sl^(g+1)*Su) x:=λx hx=>by
   obtain ⟨j,_,rfl⟩:=ZbL hx;rw[<-ZbZ,eT1,W1];exact Zea qα qui j
  have q2:∀x∈T2,QN κ ((Dl^(g+1)*Du:Nat):Int) (24*(Sl^(g+1)*Su)) x:=λx hx=>by
   by_cases hκ:κ = .q
   ·have gd:=hq hκ;have ei:i=0:=⋯;obtain ⟨j,_,rfl⟩:=ZbL hx;have p0:(0:Int)<((Dl^g*Du:Nat):Int)*(Dl:Int):=by
     have:=Q9 (Q9 (Qd (n:=g) z.dl) z.du) z.dl;rw[<-W1];omega
    have q:=ZlK p0 qQ qli j;rw[<-eT2,ZbZ,<-W1,show Dl^g*Du*Dl=Dl^(g+1)*Du by rw[Qq];grind] at q;refine q.mono ?_;have e:4*(Sl^g*Su)*Sl=4*(Sl^(g+1)*Su):=by rw[Qq];grind
    rw[e];have m1:Qt.length*(L.getD i []).length<=6:=by
     rw[ei,lL0];have lq:Qt.length<=g+1:=lQ;have:Qt.length*(d+1)<=(g+1)*(d+1):=Qp _ lq;rcases (by omega:g=0\/g=1\/g=2\/g=3) with rfl|rfl|rfl|rfl <;> omega
    have m2:Qt.length*(L.getD i []).length*(4*(Sl^(g+1)*Su))<=6*(4*(Sl^(g+1)*Su)):=Qp _ m1;rw[Qz] at m2;omega
   ·exact Zsz hκ
  have pDD:0<Dl^(g+1)*Du:=Q9 dl1 z.du;refine ⟨κ,po,ta,tb',ts,ts2,T1,T2,rfl,po1 (S1c.trans (Sd.trans Se)),pT1.same Se,pT2,⋯,⋯,(λx hx=>ZeT (q1 x hx) pDD (Q5 za p3) (Q5 aM p5)),(λx hx=>ZeT (q2 x hx) pDD (Q5 za p3) ⋯),λHf tc ts3 T3 Sf' ntc pT3 tT3 eT3 lT3=>?_⟩;have q3:∀x∈T3,QN κ ((Dl^(g+1)*Du:Nat):Int) (25*(Sl^(g+1)*Su)) x:=λx hx=>by
   obtain ⟨j,_,rfl⟩:=ZbL hx;rw[<-ZbZ,eT3,Rg.Ps.c_sub,ZbZ,ZbZ];exact ((Zbk q1 j).sub ⋯ (Zbk q2 j)).mono ⋯
  have Scf:=Sd.trans (Se.trans Sf');refine ⟨κ,po,sa,tc,[sv],ts3,[c],T3,a0,_,_,_,rfl,po1 (S1c.trans Scf),(psh.same S9c).same Scf,pT3,by show 1<=90;decide,⋯,(λx hx=>by rw[Q6.mp hx];exact qσ),q3,a1,Q0 a2 zh,pDD,za,zu,zb,λHg td ts4 T4 Sg' ntd pT4 tT4 eT4 lT4=>?_⟩;have Scg:=Scf.trans Sg';have hang:=Scg _ _ hanc;have lT4:T4.length<=1+T3.length-1:=lT4;have ndn:td≠an:=λe=>by rw[e,Scf _ _ hanc] at ntd;cases ntd
  refine ⟨an,_,_,rfl,rfl,hang,Q8 (show (ns.map V.ref).length<1000 by rw[Q2,rN.1];omega) ∅,?_⟩;have O5:Off [an] Hg (upd Hg an (.lst (ns.map V.ref++[.ref td]))):=ZaZ (Same.refl Hg);refine ⟨_,_,ns++[td],N++[T4],rfl,Off.same O5 (S9c.trans Scg) (λz hz=>by rw[Q6.mp hz];exact nan),by rw[Zaf,Qn];rfl,((rN.same (ST.trans Scg)).off nin hang O5).snoc (O5 _ _ (λz=>ndn (Q6.mp z)) pT4.l) (pT4.al.mono λ_ _ n=>n.off hang O5),by rw[Qg,lN];rfl,λz=>?_,λj hj=>?_⟩
  ·rcases Qx.mp z with h|h
   ·exact nin h
   ·exact ndn (Q6.mp h).symm
  ·by_cases e:j=i
   ·subst e;rw[show (N++[T4]).getD j []=T4 by rw[Q1,Wo ⋯,lN,Wq];rfl];refine ⟨by rw[eT4,eT3,eT1,eT2];rfl,tT4,⋯,λx hx=>?_⟩;obtain ⟨k,_,rfl⟩:=ZbL hx;rw[<-ZbZ,eT4,W1];exact Zea qσ q3 k
   ·rw[show (N++[T4]).getD j []=N.getD j [] by rw[Q1,Wh ⋯,<-Q1]];exact iv j ⋯
 ·rintro i σ Hb hi ⟨z11,z12,ns,N,rfl,Sb,han,rN,lN,nin,iv⟩;have i3:i=1:=by rw[hi,Q2,Q2,rU.r.1,rL.r.1,nU,nL];rfl
  subst i3;have mem:∀f∈N,∃j,j<1/\f=N.getD j []:=λf hf=>by
   obtain ⟨j,hj,e⟩:=Uy hf;exact ⟨j,⋯,by rw[Q1,Q4 hj,e];rfl⟩
  refine ⟨_,rfl,kk Hb an ns N c α Qt (a0*(Dl^(g+1)*Du)) (S09.trans Sb) ⟨han,rN,lN⟩ σ0 α0 (λj hj=>(iv j hj).1) (λf hf=>?_) (Zqm (iv 0 ∅).2.1 λk hk=>?_) (λj hj=>(iv j hj).2.2.1) (Q9 a1 (Q9 dl1 z.du)) (Qp _ a2) λf hf x hx=>?_⟩
  ·obtain ⟨j,hj,rfl⟩:=mem f hf;exact (iv j hj).2.1
  ·have e:=(iv 0 ∅).1;rw[eQ] at e;have e2:sr (N.getD 0 [])=cn c*sr (R.take d):=by
    rw[e];generalize sr Qt*sr (L.getD 0 [])=s1;generalize sr (R.take d)=s2;generalize cn c=s3;grind
   rw[<-ZbZ,e2,ZfK,ZbZ,Zas ⋯];grind
  ·obtain ⟨j,hj,rfl⟩:=mem f hf;exact (iv j hj).2.2.2 x hx
end
def lc:Nat->Nat
 |0=>3
 |_=>2
def eU:Nat->Nat->Nat
 |0,0=>60
 |0,1=>60
 |0,_=>245
 |1,0=>60
 |1,_=>245
 |_,0=>245
 |_,_=>60
def eL:Nat->Nat->Nat
 |0,0=>60
 |0,1=>245
 |1,0=>245
 |2,0=>60
 |_,_=>560
def eD:Nat->Nat->Nat
 |0,2=>180
 |_,_=>0
def eA:Nat->Nat->Nat
 |_,0=>0
 |0,1=>60
 |0,_=>245
 |1,_=>245
 |_,_=>60
def eH:Nat->Nat->Nat
 |_,0=>0
 |0,1=>120
 |0,_=>245
 |1,_=>245
 |_,_=>60
def zS(κ:KX)(n:Nat):Nat:=match κ with
 | .q=>n
 | .r _ _=>1
theorem Zqn{κ:KX}{n:Nat}(h:0<n):0<zS κ n:=by
 cases κ with
 |q=>exact h
 |r p hp=>exact Nat.one_pos
theorem ZiI{κ:KX}{D:Int}{M n:Nat}{x:κ.F}(h:QN κ D M x)(l:κ = .q->M<=n):QN κ D (zS κ n) x:=by
 cases κ with
 |q=>exact h.mono (l rfl)
 |r p hp=>exact trivial
theorem ZlU{Du Su Dl Sl Da Sa Dh Sh g A B C E:Nat}(u0:0<Du)(u1:Du<=A)(l0:0<Dl)(l1:Dl<=B)(a0:0<Da)(a1:Da<=C)(h0:0<Dh)(h1:Dh<=E)(su:0<Su)(sl:0<Sl)(sa:0<Sa)(sh:0<Sh)
    (c1:B<=Sl) (c2:B^(g+1)*A<=10^200) (c3:25*(Sl^(g+1)*Su)<=10^500) (c4:B^(g+1)*A*(Sl*B)^(g+1)<2^3000) (c5:Sl^(g+1)*Su*(2*(B*Sl))^(g+1)<2^3000) (c6:C*E^g<=10^200) (c7:Sa*Sh^g<=10^200) (c8:E<2^3000) (c9:Sh<2^3000):FrSz Du Su Dl Sl Da Sa Dh Sh g:=by
  have p1:Dl^(g+1)<=B^(g+1):=U8 l1 _;have p2:Dl^(g+1)*Du<=B^(g+1)*A:=Qm p1 u1;refine ⟨u0,su,l0,sl,a0,sa,h0,sh,Q0 l1 c1,Q0 p2 c2,c3,Q5 (Qm p2 (U8 (Qk _ l1) _)) c4,Q5 (Qk _ (U8 (Qk _ (Qp _ l1)) _)) c5,Q0 (Qm a1 (U8 h1 _)) c6,c7,Q5 h1 c8,c9⟩
theorem Zqo{c t g:Nat}(h1:c<=2)(h2:t<lc c)(h3:g+t<=lc c):(c=0/\((t=0/\g<=3)\/(t=1/\g<=2)\/(t=2/\g<=1)))\/((c=1\/c=2)/\((t=0/\g<=2)\/(t=1/\g<=1))):=by
 obtain rfl|rfl|rfl:c=0\/c=1\/c=2:=⋯
 ·have:lc 0=3:=rfl;omega
 ·have:lc 1=2:=rfl;omega
 ·have:lc 2=2:=rfl;omega
theorem ZsA{c t g Dl:Nat}(h1:c<=2)(h2:t<lc c)(h3:g+t<=lc c)(l0:0<Dl)(l1:Dl<=2^eD c t):FrSz 1 (2^eU c t) Dl (2^eL c t) 1 (2^eA c t) 1 (2^eH c t) g:=by
 have key:∀c t g,2^eD c t<=2^eL c t->(2^eD c t)^(g+1)*1<=10^200->25*((2^eL c t)^(g+1)*2^eU c t)<=10^500->(2^eD c t)^(g+1)*1*(2^eL c t*2^eD c t)^(g+1)<2^3000->(2^eL c t)^(g+1)*2^eU c t*(2*(2^eD c t*2^eL c t))^(g+1)<2^3000->2^eA c t*(2^eH c t)^g<=10^200->2^eH c t<2^3000->Dl<=2^eD c t->FrSz 1 (2^eU c t) Dl (2^eL c t) 1 (2^eA c t) 1 (2^eH c t) g:=λc t g c1 c2 c3 c4 c5 c7 c9 l1 =>
  ZlU (A:=1) (B:=2^eD c t) (C:=1) (E:=1) ∅ ∅ l0 l1 ∅ ∅ ∅ ∅ (Qd ∅) (Qd ∅) (Qd ∅) (Qd ∅) c1 c2 c3 c4 c5 (by rw[Ug];decide) c7 ∅ c9
 have z:=Zqo h1 h2 h3;rcases z with ⟨rfl,⟨rfl,hg⟩|⟨rfl,hg⟩|⟨rfl,hg⟩⟩|⟨rfl|rfl,⟨rfl,hg⟩|⟨rfl,hg⟩⟩
 ·rcases (by omega:g=0\/g=1\/g=2\/g=3) with rfl|rfl|rfl|rfl <;> exact key _ _ _ ‹4› ‹4› ‹4› ‹4› ‹4› ‹4› ‹4› l1
 ·rcases (by omega:g=0\/g=1\/g=2) with rfl|rfl|rfl <;> exact key _ _ _ ‹4› ‹4› ‹4› ‹4› ‹4› ‹4› ‹4› l1
 ·rcases (by omega:g=0\/g=1) with rfl|rfl <;> exact key _ _ _ ‹4› ‹4› ‹4› ‹4› ‹4› ‹4› ‹4› l1
 ·rcases (by omega:g=0\/g=1\/g=2) with rfl|rfl|rfl <;> exact key _ _ _ ‹4› ‹4› ‹4› ‹4› ‹4› ‹4› ‹4› l1
 ·rcases (by omega:g=0\/g=1) with rfl|rfl <;> exact key _ _ _ ‹4› ‹4› ‹4› ‹4› ‹4› ‹4› ‹4› l1
 ·rcases (by omega:g=0\/g=1\/g=2) with rfl|rfl|rfl <;> exact key _ _ _ ‹4› ‹4› ‹4› ‹4› ‹4› ‹4› ‹4› l1
 ·rcases (by omega:g=0\/g=1) with rfl|rfl <;> exact key _ _ _ ‹4› ‹4› ‹4› ‹4› ‹4› ‹4› ‹4› l1
theorem ZsB{g:Nat}(hg:g<=19):FrSz 1 1 1 1 1 1 1 1 g:=by
 have e1:∀n:Nat,(1:Nat)^n=1:=λn=>Ug n;have e2:(2:Nat)^(g+1)<2^3000:=Nat.pow_lt_pow_right ∅ ⋯;refine ZlU (A:=1) (B:=1) (C:=1) (E:=1) ∅ ∅ ∅ ∅ ∅ ∅ ∅ ∅ ∅ ∅ ∅ ∅ ∅ ?_ ?_ ?_ ?_ ?_ ?_ ∅ ∅
 ·rw[e1];decide
 ·rw[e1];decide
 ·rw[show (1*1:Nat)=1 from rfl,e1];decide
 ·rw[e1,Wv,Wv];exact e2
 ·rw[e1];decide
 ·rw[e1];decide
theorem ZlV{c t g:Nat}(h1:c<=2)(h2:t+2<=lc c)(h3:g+t+1<=lc c):eD c t=0/\2^eA c t*(2^eH c t)^g*(1^(g+1)*1)<=2^eD c (t+1)/\1*1^g*(25*((2^eL c t)^(g+1)*2^eU c t))<=2^eL c (t+1)/\eL c t<=eU c (t+1)/\eL c t<=eA c (t+1)/\eH c t<=eH c (t+1)/\(∀g',g=g'+1->(2^eH c t)^g'<=1/\(2^eL c t)^g*1^g'<=2^eH c (t+1)):=by
 have z:(c=0/\((t=0/\g<=2)\/(t=1/\g<=1)))\/((c=1\/c=2)/\t=0/\g<=1):=by
  rcases (by omega:c=0\/c=1\/c=2) with e|e|e
  ·rw[e,show lc 0=3 from rfl] at h2 h3;omega
  ·rw[e,show lc 1=2 from rfl] at h2 h3;omega
  ·rw[e,show lc 2=2 from rfl] at h2 h3;omega
 rcases z with ⟨rfl,⟨rfl,hg⟩|⟨rfl,hg⟩⟩|⟨rfl|rfl,rfl,hg⟩
 ·rcases (by omega:g=0\/g=1\/g=2) with rfl|rfl|rfl
  ·exact ⟨rfl,‹4›,‹4›,∅,∅,∅,λg' e=>⋯⟩
  ·refine ⟨rfl,‹4›,‹4›,∅,∅,∅,λg' e=>?_⟩;obtain rfl:g'=0:=⋯
   decide +kernel
  ·refine ⟨rfl,‹4›,‹4›,∅,∅,∅,λg' e=>?_⟩;obtain rfl:g'=1:=⋯
   decide +kernel
 ·rcases (by omega:g=0\/g=1) with rfl|rfl
  ·exact ⟨rfl,‹4›,‹4›,∅,∅,∅,λg' e=>⋯⟩
  ·refine ⟨rfl,‹4›,‹4›,∅,∅,∅,λg' e=>?_⟩;obtain rfl:g'=0:=⋯
   decide +kernel
 ·rcases (by omega:g=0\/g=1) with rfl|rfl
  ·exact ⟨rfl,‹4›,‹4›,∅,∅,∅,λg' e=>⋯⟩
  ·refine ⟨rfl,‹4›,‹4›,∅,∅,∅,λg' e=>?_⟩;obtain rfl:g'=0:=⋯
   decide +kernel
 ·rcases (by omega:g=0\/g=1) with rfl|rfl
  ·exact ⟨rfl,‹4›,‹4›,∅,∅,∅,λg' e=>⋯⟩
  ·refine ⟨rfl,‹4›,‹4›,∅,∅,∅,λg' e=>?_⟩;obtain rfl:g'=0:=⋯
   decide +kernel
theorem Zrl{c t ℓ:Nat}(h1:c<=2)(h2:t<lc c)(h3:ℓ+t<=lc c):eD c t<=180/\eL c t<=560/\(2<=ℓ->eD c t=0/\eL c t<=245)/\(c=0->3<=ℓ->eL c t<=60):=by
 obtain rfl|rfl|rfl:c=0\/c=1\/c=2:=⋯
 ·have e:lc 0=3:=rfl;rcases (by omega:t=0\/t=1\/t=2) with rfl|rfl|rfl
  ·exact ⟨∅,∅,λ_=>⟨rfl,∅⟩,λ_ _=>∅⟩
  ·exact ⟨∅,∅,λ_=>⟨rfl,∅⟩,λ_ z=>⋯⟩
  ·exact ⟨∅,∅,λz=>⋯,λ_ z=>⋯⟩
 ·have e:lc 1=2:=rfl;rcases (by omega:t=0\/t=1) with rfl|rfl
  ·exact ⟨∅,∅,λ_=>⟨rfl,∅⟩,λz=>⋯⟩
  ·exact ⟨∅,∅,λz=>⋯,λz=>⋯⟩
 ·have e:lc 2=2:=rfl;rcases (by omega:t=0\/t=1) with rfl|rfl
  ·exact ⟨∅,∅,λ_=>⟨rfl,∅⟩,λz=>⋯⟩
  ·exact ⟨∅,∅,λz=>⋯,λz=>⋯⟩
section
variable{κ:KX}
structure CrJ (f g:Sr κ) (U L:ZZlk κ):Prop where
 tU:Trm U
 tL:Trm L
 bU:∃a b,Fs a/\Fs b/\sr U=f*a+g*b
 bL:∃a b,Fs a/\Fs b/\sr L=f*a+g*b
 id:∃a b c d,Fs a/\Fs b/\Fs c/\Fs d/\f=a*sr U+b*sr L/\g=c*sr U+d*sr L
theorem CrJ.step{f g:Sr κ}{U L N:ZZlk κ}{c α:κ.F}{Qt:ZZlk κ}(h:CrJ f g U L)(c0:c≠0)(α0:α≠0)
    (e0:sr N=cn c*(cn α*sr U-sr Qt*sr L)) (tN:Trm N):CrJ f g L N:=by
  have ic:=Zjv c0;have ia:=Zjv α0;obtain ⟨a,b,c',d',fa,fb,fc,fd,ef,eg⟩:=h.id;obtain ⟨a1,b1,fa1,fb1,bU⟩:=h.bU;obtain ⟨a2,b2,fa2,fb2,bL⟩:=h.bL;have eU:sr U=cn (Fd.inv α)*sr Qt*sr L+cn (Fd.inv α)*cn (Fd.inv c)*sr N:=by
    rw[e0];generalize sr U=u at *;generalize sr L=l at *;generalize sr Qt=q at *;generalize cn c=sc at *;generalize cn α=sα at *;generalize cn (Fd.inv c)=isc at *;generalize cn (Fd.inv α)=isα at *;have h1:isα*q*l+isα*isc*(sc*(sα*u-q*l))=isα*q*l+isα*(isc*sc)*(sα*u-q*l):=by grind
    rw[h1,ic];have h2:isα*q*l+isα*1*(sα*u-q*l)=(isα*sα)*u:=by grind
    rw[h2,ia];grind
  refine ⟨h.tL,tN,h.bL,⟨cn c*(cn α*a1-sr Qt*a2),cn c*(cn α*b1-sr Qt*b2),?_,?_,?_⟩,⟨a*(cn (Fd.inv α)*sr Qt)+b,a*(cn (Fd.inv α)*cn (Fd.inv c)),c'*(cn (Fd.inv α)*sr Qt)+d',c'*(cn (Fd.inv α)*cn (Fd.inv c)),?_,?_,?_,?_,?_,?_⟩⟩
  · exact (Fs.cn _).mul (((Fs.cn _).mul fa1).sub ((Fs.sr _).mul fa2))
  · exact (Fs.cn _).mul (((Fs.cn _).mul fb1).sub ((Fs.sr _).mul fb2))
  · rw[e0,bU,bL]
    generalize sr Qt=q;generalize cn c=sc;generalize cn α=sα;grind
  · exact (fa.mul ((Fs.cn _).mul (Fs.sr _))).add fb
  · exact fa.mul ((Fs.cn _).mul (Fs.cn _))
  · exact (fc.mul ((Fs.cn _).mul (Fs.sr _))).add fd
  · exact fc.mul ((Fs.cn _).mul (Fs.cn _))
  · conv=>lhs; rw[ef,eU]
    generalize sr L=l;generalize sr N=n;generalize sr Qt=q;generalize cn (Fd.inv c)=isc;generalize cn (Fd.inv α)=isα;grind
  · conv=>lhs; rw[eg,eU]
    generalize sr L=l;generalize sr N=n;generalize sr Qt=q;generalize cn (Fd.inv c)=isc;generalize cn (Fd.inv α)=isα;grind
theorem CrJ.swap{f g:Sr κ}{U L:ZZlk κ}(h:CrJ f g U L):CrJ f g L U:=by
 obtain ⟨a,b,c,d,fa,fb,fc,fd,ef,eg⟩:=h.id;refine ⟨h.tL,h.tU,h.bL,h.bU,⟨b,a,d,c,fb,fa,fd,fc,?_,?_⟩⟩
 ·conv=>lhs;rw[ef]
  generalize sr L=l;generalize sr U=u;grind
 ·conv=>lhs;rw[eg]
  generalize sr L=l;generalize sr U=u;grind
def ZrQ(c:Nat)(R:ZZlk κ):Prop:=∃D S:Nat,0<D/\D<=S/\S<=2^245/\(c=0->3<=R.length->S<=2^60)/\∀x∈R,QN κ (D:Int) S x
structure CrP (f g:Sr κ) (c:Nat) (R:ZZlk κ):Prop where
 t:Trm R
 b:∃a b,Fs a/\Fs b/\sr R=f*a+g*b
 o:(R=[]/\f=0/\g=0)\/(Mon R/\∃a c,Fs a/\Fs c/\f=a*sr R/\g=c*sr R)
 z:ZrQ c R
def ZqE(κ:KX)(c:Nat)(U:ZZlk κ):Prop:=∃D S:Nat,0<D/\D<=2^180/\0<S/\S<=2^560/\(2<=U.length->D=1/\S<=2^245)/\(c=0->3<=U.length->S<=2^60)/\∀x∈U,QN κ (D:Int) S x
theorem Zqp{c t:Nat}{L:ZZlk κ}{Dl:Nat}(h1:c<=2)(hq:κ = .q->t<lc c/\L.length+t<=lc c)(l0:0<Dl)(l1:Dl<=zS κ (2^eD c t))(qL:∀x∈L,QN κ (Dl:Int) (zS κ (2^eL c t)) x):ZqE κ c L:=by
 cases κ with
 |r p hp=>exact ⟨1,1,∅,∅,∅,∅,λ_=>⟨rfl,∅⟩,λ_ _=>∅,λ_ _=>trivial⟩
 |q =>
  obtain ⟨h2,h3⟩:=hq rfl;obtain ⟨z1,z2,z3,z4⟩:=Zrl h1 h2 h3;refine ⟨Dl,2^eL c t,l0,Q0 l1 (Q7 ∅ z1),Qd ∅,Q7 ∅ z2,λl=>⟨?_,Q7 ∅ (z3 l).2⟩,λe l=>Q7 ∅ (z4 e l),qL⟩;have l1:Dl<=2^eD c t:=l1;rw[(z3 l).1] at l1;omega
end
inductive Ze6 (CF CR:Addr) (sp0:Sp) (vs:List V) (H:Hp) (Q:VK) (zE:XK):Prop
 |mk (κ:KX) (s ua la:Addr) (as bs:ZZla) (U L:ZZll κ) (_:vs=[.ref s,.ref ua,.ref la]) (_:KdX CF CR κ H s) (_:R3 κ H ua as U) (_:R3 κ H la bs L) (_:((U.getD 0 []).length<(L.getD 0 []).length->sp0 [.ref s,.ref la,.ref ua] H Q E0)) (_:((L.getD 0 []).length<=(U.getD 0 []).length->∃(f g:Sr κ) (c:Nat),CrJ f g (U.getD 0 []) (L.getD 0 [])/\c<=2/\(U.getD 0 []).length<=9/\(κ = .q->(L.getD 0 []).length<=lc c/\(U.getD 0 []).length<=lc c+1)/\AllR (QN κ ((1:Nat):Int) (zS κ (2^eU c 0))) U/\AllR (QN κ ((1:Nat):Int) (zS κ (2^eL c 0))) L/\((L.getD 0 []).length=0->ZqE κ c (U.getD 0 []))/\∀(H':Hp) (ra:Addr) (rs:ZZla) (R:ZZll κ),Same H H'->R3 κ H' ra rs R->CrP f g c (R.getD 0 [])->Q (.ref ra) H')):Ze6 CF CR sp0 vs H Q zE
def CrA(κ:KX)(Hb:Hp)(c t:Nat)(U L:ZZll κ)(lv hv:V)(x y:κ.F)(Dl:Nat):Prop:=(κ = .q->(L.getD 0 []).length+t<=lc c/\(U.getD 0 []).length+t<=lc c+1)/\NR κ Hb lv x/\NR κ Hb hv y/\x≠0/\y≠0/\AllR (QN κ ((1:Nat):Int) (zS κ (2^eU c t))) U/\AllR (QN κ (Dl:Int) (zS κ (2^eL c t))) L/\QN κ ((1:Nat):Int) (zS κ (2^eA c t)) x/\QN κ ((1:Nat):Int) (zS κ (2^eH c t)) y/\0<Dl/\Dl<=zS κ (2^eD c t)
def CrW(κ:KX)(H:Hp)(sk:Addr)(f g:Sr κ)(c mm:Nat)(σ:L2.St)(Hb:Hp):Prop:=∃(t:Nat) (ua la:Addr) (as bs:ZZla) (U L:ZZll κ) (lv hv:V) (x y:κ.F) (Dl:Nat) (z5 z6:Option V),mm=(L.getD 0 []).length/\σ=[some (.ref sk),some (.ref ua),some (.ref la),some lv,some hv,z5,z6,none]/\Same H Hb/\R3 κ Hb ua as U/\R3 κ Hb la bs L/\CrJ f g (U.getD 0 []) (L.getD 0 [])/\(L.getD 0 []).length<=(U.getD 0 []).length/\(U.getD 0 []).length<=9/\((L.getD 0 []).length=0->ZqE κ c (U.getD 0 []))/\((L.getD 0 []).length≠0->CrA κ Hb c t U L lv hv x y Dl)
theorem Zrm{κ:KX}{c t g Dl ℓL ℓU:Nat}(h1:c<=2)(g19:g<=19)(lL:ℓL≠0)(hg:ℓU=ℓL+g)(hq:κ = .q->ℓL+t<=lc c/\ℓU+t<=lc c+1)(l0:0<Dl)(l1:Dl<=zS κ (2^eD c t)):FrSz 1 (zS κ (2^eU c t)) Dl (zS κ (2^eL c t)) 1 (zS κ (2^eA c t)) 1 (zS κ (2^eH c t)) g:=by
 cases κ with
 |q =>
  obtain ⟨a,b⟩:=hq rfl;exact ZsA h1 ⋯ ⋯ l0 l1
 |r p hp =>
  have l1:Dl<=1:=l1;obtain rfl:Dl=1:=⋯;exact ZsB g19
section
variable{P:Program}{w:World}{K:ZZfg}{mg:ZZmg}{base:Heap}{CP CF CR cN cF:Addr}
theorem sc_common_row:FnScope ["kind","upper","lower","last","height","gap","following","back"] ["kind","upper","lower"] (Zah Zcb):=‹2›
theorem Zrn(h:Here K mg "common_row" Zcb):Has P w K mg base "common_row" 0 ["kind","upper","lower"] spF :=
 h.has (λ_ _ F=>F.b3 λ_ _ _ _ _ _ _ _ _=>rfl) λf fd F=>⟨λ_ _ _ _ z=>z.elim,λ_ _ _ _ _ _ _ _ _ _ _ _ _ z=>z.elim⟩
theorem ZlW{j:Nat}{sp0:Sp}(hj:8<=j)(h:Here K mg "common_row" Zcb) (T:Nm mg) (pc:Pc K mg CP) (hI:HasI P w K mg base CP 1 ["self","under"] (Zeb CP)) (mn:ZcL P w K mg base CF CR) (mb:Zd3 P w K mg base CF CR) (mv:Zjx P w K mg base CF CR) (hT:HasM P w K mg base CP "times" 6 ["self","one","other"] [] (Zde CP CF CR)) (h_raised:Has P w K mg base "raised" 8 ["kind","number","count"] (Zec CF CR)) (h_following_row:Has P w K mg base "following_row" 8 ["kind","upper","lower","last","height"] (ZfO CF CR)) (h_common_row:Has P w K mg base "common_row" j ["kind","upper","lower"] sp0):Has P w K mg base "common_row" (j+1) ["kind","upper","lower"] (Ze6 CF CR sp0):=by
 refine h.has (λ_ _ F=>F.b3 λ_ _ _ _ _ _ _ _ _=>rfl) λf fd F=>F.ok sc_common_row (λvs H Q E h=>?_) (λcdv A outer s H vs Q E hr h=>?_)
 ·obtain ⟨_,_,_,_,_,_,_,_,rfl,_⟩:=h
  rfl
 obtain ⟨κ,sk,ua,la,as,bs,U,L,rfl,hk,rU,rL,kS,kG⟩:=h;have nd:=sc_common_row.nd;have hr8:=hr.mono hj;refine ⟨_,(Zac (ZaB (Zar Zef (Zaj Zai (by rfl) T.len boot_len (Zaa (Zao Zap (pv 1) Zad (λ_ _=>rfl)) Zab)) (Zaj Zai (by rfl) T.len boot_len (Zaa (Zao Zap (pv 2) Zad (λ_ _=>rfl)) Zab)) (Zav _)) (Zae (Zal (Zam h_common_row hr (by rfl) (Zaa (pv 0) (Zaa (pv 2) (Zaa (pv 1) Zab)))))) Zat)
  (Zac (Zak (i:=3) nd rfl (Or.inl rfl) (ZaI (pv 0) Zcr hr8 (Zaa Zad Zab)))
  (Zac (Zak (i:=4) nd rfl (Or.inl rfl) (ZaI (pv 0) Zcr hr8 (Zaa Zad Zab)))
  (Zac (Zbq PassesOwn.never (Zar ZfR (Zaj Zai (by rfl) T.len boot_len (Zaa (Zao Zap (pv 2) Zad (λ_ _=>rfl)) Zab)) Zad (Zav _)) (Zac (Zak (i:=5) nd rfl (Or.inl rfl) (Zan Zbe (Zaj Zai (by rfl) T.len boot_len (Zaa (Zao Zap (pv 1) Zad (λ_ _=>rfl)) Zab)) (Zaj Zai (by rfl) T.len boot_len (Zaa (Zao Zap (pv 2) Zad (λ_ _=>rfl)) Zab))))
   (Zac (Zak (i:=6) nd rfl (Or.inl rfl) (Zam h_following_row hr8 (by rfl) (Zaa (pv 0) (Zaa (pv 1) (Zaa (pv 2) (Zaa (pv 3) (Zaa (pv 4) Zab)))))))
   (Zac (Zak (i:=1) nd rfl (Or.inl rfl) (pv 2))
   (Zac (Zak (i:=2) nd rfl (Or.inl rfl) (pv 6))
   (Zac (Zak (i:=3) nd rfl (Or.inl rfl) (Zao Zap (Zao Zap (pv 1) Zad (λ_ _=>rfl)) (Zds ZbT Zad) (λ_ _=>rfl)))
   (Zae (ZaB (Zar ZfR (pv 5) Zad (Zav _)) (Zae (Zak (i:=4) nd rfl (Or.inl rfl) (ZaI (pv 0) Zcr hr8 (Zaa (Zam h_raised hr8 (by rfl) (Zaa (pv 0) (Zaa (pv 3) (Zaa (pv 5) Zab)))) (Zaa (Zam h_raised hr8 (by rfl) (Zaa (pv 0) (Zaa (pv 4) (Zaa (Zan Zbe (pv 5) Zad) Zab)))) Zab))))) Zat))))))))
  (Zac (ZaB (Zar Zby (Zaj Zai (by rfl) T.len boot_len (Zaa (Zao Zap (pv 1) Zad (λ_ _=>rfl)) Zab)) Zad (Zav _)) (Zae (Zal (pv 1))) Zat)
  (Zac (Zak (i:=7) nd rfl (Or.inr rfl) (ZaN (Zaa (ZaI (pv 0) Zcr hr8 (Zaa (Zao Zap (Zao Zap (pv 1) Zad (λ_ _=>rfl)) (Zds ZbT Zad) (λ_ _=>rfl)) Zab)) Zab)))
  (Zae (Zal (ZaU ["one"] [(0,"kind"),(7,"back")] rfl (ZaD (pv 1)) (by exact λ_ _ _ _=>(Zaq (i:=0) (show (["one","kind","back"]:List Str).Nodup by decide +kernel) rfl (Or.inl rfl))) (by exact λ_ _ _ _=>(Zcs ⟨rfl,rfl,rfl,rfl,rfl⟩ (ZeX hI (hr8.mono ∅) (by rfl) pc.m (Zaa (pv 1) Zab)) hr8 (Zaa (pv 2) (Zaa (pv 0) Zab)))) ⟨⟨rfl,rfl,Or.inl rfl⟩,⟨⟨rfl,rfl,Or.inl rfl⟩,trivial⟩⟩))))))))),?_⟩
 have nU:=rU.n;have nL:=rL.n;obtain ⟨u0,us,gu,pu⟩:=rU.get (i:=0) ∅;obtain ⟨l0,ls,gl,pl⟩:=rL.get (i:=0) ∅;refine ⟨_,rfl,ua,_,0,_,rfl,rfl,SqL.of rU.l,ZaR (i:=0) gu,u0,_,rfl,.inl (SqL.of pu.l),_,rfl,la,_,0,_,rfl,rfl,SqL.of rL.l,ZaR (i:=0) gl,l0,_,rfl,.inl (SqL.of pl.l),_,_,rfl,rfl,_,rfl,?_⟩;rw[pu.al.1,pl.al.1];refine Za8 (λzz=>?_) (λzz=>?_)
 ·exact ⟨_,rfl,_,rfl,_,rfl,kS (by have:(((U.getD 0 []).length:Nat):Int)<(((L.getD 0 []).length:Nat):Int):=zz;omega)⟩
 have le0:(L.getD 0 []).length<=(U.getD 0 []).length:=by
  have:¬(((U.getD 0 []).length:Nat):Int)<(((L.getD 0 []).length:Nat):Int):=zz;omega
 obtain ⟨f,g,c,cr,h1,u9,lq,qU,qL,en,kk⟩:=kG le0;obtain ⟨Cn,dxn,fsn,psn,dvn,spn,c1,c2,c3,c4,rfl,c5⟩:=mn κ H sk hk;refine ⟨_,rfl,sk,Cn,dxn,fsn,psn,_,spn,rfl,c1,c2,c3.mono ∅,c4,c5 H 1 1 _ _ (Same.refl _) ZdL λv1 H1 S1 n1=>?_⟩;obtain ⟨Cm,dxm,fsm,psm,dvm,spm,m1,m2,m3,m4,rfl,m5⟩:=mn κ H1 sk (hk.same S1);refine ⟨_,rfl,sk,Cm,dxm,fsm,psm,_,spm,rfl,m1,m2,m3.mono ∅,m4,m5 H1 1 1 _ _ (Same.refl _) ZdL λv2 H2 S2 n2=>?_⟩;have S02:=S1.trans S2;have one1:∀n:Nat,QN κ ((1:Nat):Int) (zS κ (2^n)) (1:κ.F):=λn=>ZiI ZfB λ_=>Nat.one_le_two_pow;refine ⟨CrW κ H sk f g c,⟨_,0,ua,la,as,bs,U,L,v1,v2,1,1,1,_,_,rfl,rfl,S02,rU.same S02,rL.same S02,cr,le0,u9,en,λ_=>⟨lq,n1.same S2,n2,ZdP,ZdP,qU,qL,one1 _,one1 _,∅,Zqn (Qd ∅)⟩⟩,?_⟩;clear rU rL cr qU qL le0 pu pl gu gl kG kS n1 n2 nU nL us ls u0 l0 zz en lq u9;rintro mm σ Hb ⟨t,ua,la,as,bs,U,L,lv,hv,x,y,Dl,z5,z6,rfl,rfl,Sb,rU,rL,cr,le0,u9,en,ac⟩;have nU:=rU.n;have nL:=rL.n;obtain ⟨u0,us,gu,pu⟩:=rU.get (i:=0) ∅;obtain ⟨l0,ls,gl,pl⟩:=rL.get (i:=0) ∅;have only:∀ {R:ZZll κ},R.length=1->∀f∈R,f=R.getD 0 []:=fun {R} h f hf=>by
  obtain ⟨i,hi,rfl⟩:=Uy hf;obtain rfl:i=0:=⋯;exact (Zcc (Q4 hi)).symm
 refine ⟨_,rfl,la,_,0,_,rfl,rfl,SqL.of rL.l,ZaR (i:=0) gl,l0,_,rfl,.inl (SqL.of pl.l),_,_,rfl,rfl,_,rfl,?_⟩;rw[pl.al.1];refine Za8 (λzz=>?_) (λzz=>?_)
 ·-- one turn
  have zz:(0:Int)<(((L.getD 0 []).length:Nat):Int):=zz;have lz:(L.getD 0 []).length≠0:=⋯;obtain ⟨lq,nx,ny,x0,y0,qU,qL,qx,qy,dl0,dl1⟩:=ac lz;obtain ⟨d,hd⟩:∃d,(L.getD 0 []).length=d+1:=⟨(L.getD 0 []).length-1,⋯⟩;obtain ⟨gp,hg⟩:∃gp,(U.getD 0 []).length=d+1+gp:=⟨(U.getD 0 []).length-(d+1),⋯⟩;have top0:(L.getD 0 []).getD d 0≠0:=by
   have:=ZiG cr.tL ⋯;rw[hd,Wc] at this;exact this
  have lc3:lc c<=3:=by
   obtain rfl|rfl|rfl:c=0\/c=1\/c=2:=⋯
   ·exact Q3 3
   ·show 2<=3;decide
   ·show 2<=3;decide
  have fr:=Zrm (κ:=κ) (g:=gp) h1 ⋯ lz (show (U.getD 0 []).length=(L.getD 0 []).length+gp by omega) lq dl0 dl1;refine ⟨_,λ_ _ h=>h,?_⟩;refine ⟨_,rfl,ua,_,0,_,rfl,rfl,SqL.of rU.l,ZaR (i:=0) gu,u0,_,rfl,.inl (SqL.of pu.l),_,rfl,la,_,0,_,rfl,rfl,SqL.of rL.l,ZaR (i:=0) gl,l0,_,rfl,.inl (SqL.of pl.l),_,_,rfl,rfl,?_⟩;show Zdz 5 (V.int ((us.length:Int)-(ls.length:Int))) _ Hb _;rw[show (us.length:Int)-(ls.length:Int)=(gp:Int) by have:=pu.al.1;have:=pl.al.1;omega];refine ⟨_,rfl,_,rfl,_,rfl,_,rfl,_,rfl,κ,sk,ua,la,lv,hv,as,bs,U,L,x,y,gp,d,1,_,Dl,_,1,_,1,_,rfl,hk.same Sb,rU,rL,hd,top0,hg,(λf hf=>by rw[only nU f hf];omega),(λf hf=>by rw[only nL f hf];omega),(λe=>by have:=lq e;omega),nx,ny,x0,y0,qU,qL,qx,qy,fr,λHc na ns N cc α Qt D' Sc rN cc0 α0 eN tN lN0 lN d0' dle qN=>?_⟩;have nN:=rN.n;have crN:=cr.step cc0 α0 (eN 0 ∅) (tN _ (Za3 (R:=N) (i:=0) ⋯));have S0c:=Sb.trans Sc;obtain ⟨cv,hcv,ncv⟩:=Za1 pl.al (i:=d) ⋯;have qc:QN κ (Dl:Int) (zS κ (2^eL c t)) ((L.getD 0 []).getD d 0):=Zbk (qL _ (Za3 ⋯)) d;have enL:ZqE κ c (L.getD 0 []):=Zqp h1 (λe=>by have:=lq e;omega) dl0 dl1 (qL _ (Za3 ⋯));have fin:∀(Hf:Hp) (w3:V) (y':κ.F) {z6':Option V},Same Hc Hf->NR κ Hf w3 y'->y'≠0->((N.getD 0 []).length≠0->QN κ ((1:Nat):Int) (zS κ (2^eH c (t+1))) y')->∃m',m'<(L.getD 0 []).length/\CrW κ H sk f g c m' [some (.ref sk),some (.ref la),some (.ref na),some cv,some w3,some (.int (gp:Int)),z6',none] Hf:=λHf w3 y' z6' Sf nw y0' qh=>by
   refine ⟨(N.getD 0 []).length,⋯,t+1,la,na,bs,ns,L,N,cv,w3,(L.getD 0 []).getD d 0,y',D',_,_,rfl,rfl,S0c.trans Sf,rL.same (Sc.trans Sf),rN.same Sf,crN,⋯,⋯,(λ_=>enL),λnz=>?_⟩;have d1:1<=d:=⋯
   cases κ with
   |r p hp =>
    have dN:D'<=1:=by
     have e1:(1:Nat)*1^gp*(Dl^(gp+1)*1)=Dl^(gp+1):=by rw[Ug];omega
     have l1:Dl<=1:=dl1;have:D'<=1*1^gp*(Dl^(gp+1)*1):=dle;rw[e1] at this;exact Q0 this (Q0 (U8 l1 _) (by rw[Ug];exact Q3 _))
    exact ⟨(λe=>nomatch e),ncv.same (Sc.trans Sf),nw,top0,y0',λ_ _ _ _=>trivial,λ_ _ _ _=>trivial,trivial,trivial,d0',dN⟩
   |q =>
    obtain ⟨q1,q2⟩:=lq rfl;obtain ⟨x1,x2,x3,x4,x5,x6,x7⟩:=ZlV (c:=c) (t:=t) (g:=gp) h1 ⋯ ⋯;have l1:Dl<=2^eD c t:=dl1;rw[x1] at l1;obtain rfl:Dl=1:=⋯;have pw:∀ {a b:Nat},a<=b->2^a<=2^b:=λh=>Q7 ∅ h;exact ⟨λ_=>⟨⋯,⋯⟩,ncv.same (Sc.trans Sf),nw,top0,y0',λa b v d=>(qL a b v d).mono (pw x4),λa b v d=>(qN a b v d).mono x3,qc.mono (pw x5),qh nz,d0',Q0 dle x2⟩
  refine ⟨_,rfl,_,rfl,_,rfl,la,_,0,_,rfl,rfl,SqL.of (Sc _ _ rL.l),ZaR (i:=0) gl,_,rfl,l0,_,_,cv,rfl,rfl,SqL.of (Sc _ _ pl.l),Zg8 hcv (by have:=pl.al.1;omega),?_⟩;refine ⟨_,rfl,_,_,rfl,rfl,_,rfl,Za8 (λgz=>?_) (λgz=>?_)⟩
  ·have gz:(0:Int)<(gp:Int):=gz;obtain ⟨gq,rfl⟩:∃gq,gp=gq+1:=⟨gp-1,⋯⟩;obtain ⟨Cv,dxv,fsv,psv,dvv,spv,o1,o2,o3,o4,rfl,o5⟩:=mv κ Hc sk (hk.same S0c);have p3:(10^200:Nat)<2^3000:=∅;have p5:(10^500:Nat)<2^3000:=∅;have fa:=fr.a;have fb:=fr.b;have a1:Dl^(gq+1+1)<=10^200:=Q0 (Ub _ fr.du) fa;have a2:Dl^(gq+1)<=10^200:=Q0 (Q7 fr.dl ⋯) a1;have a3:Dl<=10^200:=Q0 (Ui (U7 Dl).symm) (Q0 (Q7 fr.dl ⋯) a2);have b1:zS κ (2^eL c t)^(gq+1+1)<=10^500:=Q0 (Ub _ fr.su) ⋯;have b2:zS κ (2^eL c t)^(gq+1)<=10^500:=Q0 (Q7 fr.sl ⋯) b1;have b3:zS κ (2^eL c t)<=10^500:=Q0 (Ui (U7 (zS κ (2^eL c t))).symm) (Q0 (Q7 fr.sl ⋯) b2);have k1:zS κ (2^eH c t)^(gq+1)<=10^200:=Q0 (Ws _ fr.sa) fr.h;have k2:zS κ (2^eH c t)^gq<=10^200:=Q0 (Q7 fr.sh ⋯) k1;have o1':(1:Nat)^gq<2^3000:=by rw[Ug];decide
   have q1:=ZfN qc (gq+1);have q2:=ZfN qy gq;have y1:=ZhV y0 gq;obtain ⟨a0,i1,i2,qi⟩:=ZhS (Qd ∅) (Qd fr.sh) q2 y1;refine ⟨_,rfl,sk,Cv,dxv,fsv,psv,_,spv,rfl,o1,o2,o3.mono ∅,o4,_,rfl,_,rfl,_,rfl,κ,sk,cv,_,gq+1,Dl,_,rfl,hk.same S0c,ncv.same Sc,⋯,qc,fr.dl,fr.sl,Q5 a2 p3,Q5 b2 p5,Q5 a3 p3,Q5 b3 p5,λHd w1 Sd nw1=>?_⟩;refine ⟨_,rfl,_,rfl,_,rfl,_,_,rfl,rfl,κ,sk,hv,y,gq,1,_,(by show [V.ref sk,hv,V.int (((gq+1:Nat):Int)-1)]=_;rw[show ((gq+1:Nat):Int)-1=(gq:Int) by omega]),hk.same (S0c.trans Sd),ny.same (Sc.trans Sd),⋯,qy,∅,fr.sh,o1',Q5 k2 p3,∅,fr.hS,λHe w2 Se nw2=>?_⟩;refine o5 He w1 w2 _ _ _ _ (Sd.trans Se) (nw1.same Se) nw2 y1 (ZeT q1 (Qd fr.dl) (Q5 a2 p3) (Q5 b2 p5)) (ZeT qi i1 (Q5 (Q0 i2 k2) p3) o1') λw3 Hf Sf nw3=>?_;refine fin Hf w3 _ (Sd.trans (Se.trans Sf)) nw3 (ZnX (ZhV top0 _) (Zjw y1)) λnz=>?_
   cases κ with
   |r p hp=>exact trivial
   |q =>
    obtain ⟨r1,r2⟩:=lq rfl;obtain ⟨x1,x2,x3,x4,x5,x6,x7⟩:=ZlV (c:=c) (t:=t) (g:=gq+1) h1 ⋯ ⋯;obtain ⟨y1',y2'⟩:=x7 gq rfl;have l1:Dl<=2^eD c t:=dl1;rw[x1] at l1;obtain rfl:Dl=1:=⋯;have qm:=q1.mul qi;have ea:a0=1:=by
     have:a0<=(2^eH c t)^gq:=i2;omega
    rw[ea,Ug,<-W1] at qm;exact qm.mono (Q0 (Ui (by rw[Ug];rfl)) y2')
  ·have gz:gp=0:=by have:¬(0:Int)<(gp:Int):=gz;omega
   refine fin Hc hv y (Same.refl _) (ny.same Sc) y0 λnz=>?_
   cases κ with
   |r p hp=>exact trivial
   |q =>
    obtain ⟨r1,r2⟩:=lq rfl;obtain ⟨x1,x2,x3,x4,x5,x6,x7⟩:=ZlV (c:=c) (t:=t) (g:=gp) h1 ⋯ ⋯;exact qy.mono (Q7 ∅ x6)
 ·-- the end
  have zz:(L.getD 0 []).length=0:=by
   have:¬(0:Int)<(((L.getD 0 []).length:Nat):Int):=zz;omega
  have sL0:sr (L.getD 0 [])=0:=by rw[List.length_eq_zero_iff.mp zz];exact ZnW
  obtain ⟨a,b,c',d,fa,fb,fc,fd,ef,eg⟩:=cr.id;rw[sL0] at ef eg;have ef:f=a*sr (U.getD 0 []):=by
   conv=>lhs;rw[ef]
   generalize sr (U.getD 0 [])=u;grind
  have eg:g=c'*sr (U.getD 0 []):=by
   conv=>lhs;rw[eg]
   generalize sr (U.getD 0 [])=u;grind
  obtain ⟨Du,Su,du0,dul,su0,sul,e2,e3,qU⟩:=en zz;have bSu:Su<=10^200:=Q0 sul ∅;have bDu:Du<=10^200:=Q0 dul ∅;refine ⟨_,rfl,ua,_,0,_,rfl,rfl,SqL.of rU.l,ZaR (i:=0) gu,u0,_,rfl,.inl (SqL.of pu.l),rfl,_,rfl,?_⟩;rw[pu.al.1];refine Zbx (λuz=>?_) (λuz=>?_)
  ·have uz:(U.getD 0 []).length=0:=⋯;have e0:=List.length_eq_zero_iff.mp uz;have s0:sr (U.getD 0 [])=0:=by rw[e0];exact ZnW
   refine ⟨_,rfl,kk Hb ua as U Sb rU ⟨cr.tU,cr.bU,.inl ⟨e0,by rw[ef,s0];grind,by rw[eg,s0];grind⟩,1,1,∅,∅,∅,(λ_ z=>⋯),λx hx=>by rw[e0] at hx;exact nomatch hx⟩⟩
  ·have uz:(U.getD 0 []).length≠0:=λz=>uz (by rw[z];rfl);obtain ⟨m,hm⟩:∃m,(U.getD 0 []).length=m+1:=⟨(U.getD 0 []).length-1,⋯⟩;obtain ⟨cv,hcv,ncv⟩:=Za1 pu.al (i:=m) ⋯;have top0:(U.getD 0 []).getD m 0≠0:=by
    have:=ZiG cr.tU uz;rw[hm,Wc] at this;exact this
   have qc:QN κ (Du:Int) Su ((U.getD 0 []).getD m 0):=Zbk qU m;obtain ⟨a0,i1,i2,qi⟩:=ZhS du0 su0 qc top0;have mi:=Fd.mul_inv _ top0;obtain ⟨Cb,dxb,fsb,psb,dvb,spb,b1,b2,b3,b4,rfl,b5⟩:=mb κ Hb sk (hk.same Sb);refine ⟨_,rfl,sk,Cb,dxb,fsb,psb,_,spb,rfl,b1,b2,b3.mono ∅,b4,_,rfl,ua,_,0,_,rfl,rfl,SqL.of rU.l,ZaR (i:=0) gu,_,rfl,u0,_,_,cv,rfl,rfl,SqL.of pu.l,Zg8 hcv (by have:=pu.al.1;omega),b5 Hb cv _ _ _ (Same.refl _) ncv top0 λbv Hc Sc nbv=>⟨(by show 1<=sizeLine;decide),λba nba=>?_⟩⟩;generalize hiv:Fd.inv ((U.getD 0 []).getD m 0)=iv at *;have Sba:=Zag nba (.lst [bv]);have pb:PolL κ (upd Hc ba (.lst [bv])) ba [bv] [iv]:=⟨Zaf,.one (nbv.same Sba)⟩;generalize upd Hc ba (.lst [bv])=Hd at *;have Sbd:=Sc.trans Sba;have S0d:=Sb.trans Sbd;have rUd:=rU.same Sbd;have lUs:(as.map V.ref).length=1:=by rw[Q2,rU.r.1,nU]
   refine ⟨_,rfl,ua,rfl,⟨_,SqL.of rUd.l⟩,?_⟩;refine ZaG (K:=K) (a:=ua) (xs:=as.map V.ref) (λi ys H2=>∃(ds:ZZla) (R:ZZll κ),ys=ds.map V.ref/\Same Hd H2/\RowsX κ H2 ds R/\R.length=i/\∀j,j<i->sr (R.getD j [])=cn iv*sr (U.getD j [])/\Trm (R.getD j [])/\(R.getD j []).length<=(U.getD j []).length/\∀x∈R.getD j [],QN κ ((a0*Du:Nat):Int) (Du*Su) x) ⋯ ⟨[],[],rfl,Same.refl _,.nil,rfl,λj h=>⋯⟩ (λi ys H2 _ q=>by obtain ⟨_,_,_,q,_⟩:=q;exact SqL.of (q _ _ rUd.l)) ?_ ?_
   ·rintro i xv ys H2 hx hl ⟨ds,R,rfl,S2,rR,lR,iv2⟩;obtain ⟨ui,hui,rfl⟩:=ZaA hx;have i3:i<1:=by have:=(Qo.mp hui).1;have:=rU.r.1;omega
    obtain ⟨ui',xs,gui,pui⟩:=rUd.get i3;rw[hui] at gui
    cases gui
    obtain rfl:i=0:=⋯;refine ⟨_,rfl,λpo dxp npo ndxp nexp=>⟨po,dxp,sk,rfl,Zaf,rfl,?_⟩⟩;have Sx:∀o1 o2 o3,Same H2 (upd (upd (upd H2 dxp o1) po o2) po o3):=λ_ _ _ b o e=>by
     rw[Zau (Zay e npo),Zau (Zay e npo),Zau (Zay e ndxp)];exact e
    refine ⟨po,CP,dxp,_,_,_,_,rfl,Zaf,pc.cl,hT.mono ∅,rfl,_,rfl,_,rfl,κ,po,ba,ui,[bv],xs,[iv],U.getD 0 [],a0,Du,Du,Su,rfl,⟨dxp,sk,Zaf,(hk.same S0d).same (S2.trans (Sx _ _ _))⟩,(pb.same S2).same (Sx _ _ _),(pui.same S2).same (Sx _ _ _),by show 1<=90;decide,⋯,(λx hx=>by rw[Q6.mp hx];exact qi),qU,i1,Q0 i2 bSu,du0,bDu,Q0 bDu ∅,Q0 bSu ∅,λH3 Rr zs T S3 nRr pT tT eT lT=>?_⟩;have S23:=(Sx _ _ _).trans S3;have lT:T.length<=1+(U.getD 0 []).length-1:=lT;refine ⟨ds++[Rr],R++[T],by rw[Qn];rfl,S2.trans S23,(rR.same S23).snoc pT.l pT.al,by rw[Qg,lR];rfl,λj hj=>?_⟩;obtain rfl:j=0:=⋯;rw[show (R++[T]).getD 0 []=T by rw[Q1,Wo ⋯,lR,Wq];rfl];refine ⟨eT,tT,⋯,λx hx=>?_⟩;obtain ⟨k,_,rfl⟩:=ZbL hx;rw[<-ZbZ,eT,W1];exact Zea qi qU k
   ·rintro ys H2 hl ⟨ds,R,rfl,S2,rR,lR,iv2⟩ D nD;rw[lUs] at lR iv2;have SD:=Zag nD (.lst (ds.map V.ref));obtain ⟨e0,tR,l1',qR⟩:=iv2 0 ∅;have c0:∀k,(R.getD 0 []).getD k 0=iv*(U.getD 0 []).getD k 0:=λk=>by rw[<-ZbZ,e0,ZfK,ZbZ]
    have tp:(R.getD 0 []).getD m 0=1:=by rw[c0 m,<-mi];generalize (U.getD 0 []).getD m 0=z2;grind
    have lR0:(R.getD 0 []).length=m+1:=by
     have h2:m<(R.getD 0 []).length:=Nat.lt_of_not_le λq=>by
      rw[Zas q] at tp;exact ZdP tp.symm
     omega
    have ic2:cn ((U.getD 0 []).getD m 0)*cn iv=1:=by rw[Zqk,mi,Zju]
    have eU:sr (U.getD 0 [])=cn ((U.getD 0 []).getD m 0)*sr (R.getD 0 []):=by
     rw[e0];generalize cn ((U.getD 0 []).getD m 0)=s1 at *;generalize cn iv=s2 at *;generalize sr (U.getD 0 [])=s3 at *;have:s1*(s2*s3)=s1*s2*s3:=by grind
     rw[this,ic2];grind
    obtain ⟨ab,bb,fab,fbb,ebU⟩:=cr.bU;refine kk _ D ds R (S0d.trans (S2.trans SD)) ⟨Zaf,rR.same SD,lR⟩ ⟨tR,⟨cn iv*ab,cn iv*bb,(Fs.cn _).mul fab,(Fs.cn _).mul fbb,?_⟩,.inr ⟨⟨⋯,by rw[lR0,Wc];exact tp⟩,a*cn ((U.getD 0 []).getD m 0),c'*cn ((U.getD 0 []).getD m 0),fa.mul (Fs.cn _),fc.mul (Fs.cn _),?_,?_⟩,?_⟩
    ·rw[e0,ebU];generalize cn iv=s1;grind
    ·conv=>lhs;rw[ef,eU]
     generalize sr (R.getD 0 [])=s1;generalize cn ((U.getD 0 []).getD m 0)=s2;grind
    ·conv=>lhs;rw[eg,eU]
     generalize sr (R.getD 0 [])=s1;generalize cn ((U.getD 0 []).getD m 0)=s2;grind
    ·by_cases ml:1<=m
     ·obtain ⟨rfl,s245⟩:=e2 ⋯;refine ⟨a0,Su,i1,i2,s245,λz1 z2=>e3 z1 ⋯,λx hx=>?_⟩;have:=qR x hx
      rwa [Nat.mul_one,Wv] at this
     ·refine ⟨1,1,∅,∅,∅,(λ_ z=>⋯),λx hx=>?_⟩;obtain ⟨k,hk',rfl⟩:=ZbL hx;obtain rfl:k=m:=⋯;rw[tp];exact ZfB
end
section
variable{κ:KX}
def ShZ(κ:KX)(R:ZZlk κ):Prop:=∃D S:Nat,0<D/\D<=S/\S<=2^245/\(3<=R.length->S<=2^60)/\∀x∈R,QN κ (D:Int) S x
theorem Zo0{R F:ZZlk κ}{a:Sr κ}(mo:Mon R)(tF:Trm F)(hF:F.length≠0)(fa:Fs a)(e:sr F=a*sr R):R.length<=F.length:=Nat.le_of_not_lt λq=>by
 have l0:=mo.1;have z:=ZfL (m:=R.length-1) (d:=R) (R:=F) ⋯ mo.2 ⋯ fa e;exact hF (by rw[ZlJ tF z];rfl)
theorem ShZ.of{R F:ZZlk κ}{c:Nat}(h:ZrQ c R)(l:R.length<=F.length)(hc:κ = .q->c=0\/F.length<=2):ShZ κ R:=by
 cases κ with
 |r p hp=>exact ⟨1,1,∅,∅,∅,λ_=>∅,λ_ _=>trivial⟩
 |q =>
  obtain ⟨D,S,d0,dl,sl,s3,q⟩:=h;exact ⟨D,S,d0,dl,sl,λl3=>(hc rfl).elim (λe=>s3 e l3) (λe=>⋯),q⟩
theorem Znb{f g:Sr κ}{F G:ZZlk κ}{y z:κ.F}{X Y:ZZlk κ}(y0:y≠0)(z0:z≠0)(tX:Trm X)(tY:Trm Y)(ef:f=sr F)(eg:g=sr G)(eX:sr X=cn y*sr F)(eY:sr Y=cn z*sr G):CrJ f g X Y:=by
 have iy:=Zjv y0;have iz:=Zjv z0;subst ef eg;refine ⟨tX,tY,⟨cn y,0,Fs.cn _,Fs.zero,?_⟩,⟨0,cn z,Fs.zero,Fs.cn _,?_⟩,⟨cn (Fd.inv y),0,0,cn (Fd.inv z),Fs.cn _,Fs.zero,Fs.zero,Fs.cn _,?_,?_⟩⟩
 ·rw[eX];generalize sr F=f;generalize sr G=g;generalize cn y=s;grind
 ·rw[eY];generalize sr F=f;generalize sr G=g;generalize cn z=s;grind
 ·rw[eX];generalize sr F=f at *;generalize sr Y=g at *;generalize cn y=s at *;generalize cn (Fd.inv y)=t at *;have:t*(s*f)+0*g=t*s*f:=by grind
  rw[this,iy];grind
 ·rw[eY];generalize sr G=f at *;generalize sr X=g at *;generalize cn z=s at *;generalize cn (Fd.inv z)=t at *;have:0*g+t*(s*f)=t*s*f:=by grind
  rw[this,iz];grind
theorem ZnY{X F:ZZlk κ}{y:κ.F}(y0:y≠0)(tF:Trm F)(e:sr X=cn y*sr F):F.length<=X.length:=Nat.le_of_not_lt λq=>by
 have h0:F.length≠0:=⋯;have:=ZiG tF h0;have h:=congrArg (λs=>Rg.Ps.c s (F.length-1)) e;have h:(sr X).c (F.length-1)=(cn y*sr F).c (F.length-1):=h;rw[ZfK,ZbZ,ZbZ,Zas ⋯] at h;have mi:=Fd.mul_inv y y0;generalize F.getD (F.length-1) 0=u at *;exact this (by
  have:u=Fd.inv y*(y*u):=by grind
  rw[this,<-h];grind)
theorem Zqq{X F:ZZlk κ}{y:κ.F}{S:Nat}(e:sr X=cn y*sr F)(l:X.length<=F.length)(q:∀x∈F,QN κ 1 S (y*x)):∀x∈X,QN κ ((1:Nat):Int) S x:=λx hx=>by
 obtain ⟨k,hk,rfl⟩:=ZbL hx;rw[<-ZbZ,e,ZfK,ZbZ];refine q _ ?_;rw[Q1,Q4 ⋯];exact Ql _
end
inductive Zg9 (CF CR:Addr) (vs:List V) (H:Hp) (Q:VK) (zE:XK):Prop
 |mk (κ:KX) (s fa ga:Addr) (xs ys:List V) (F G:ZZlk κ) (_:vs=[.ref s,.ref fa,.ref ga]) (_:KdX CF CR κ H s) (_:PolL κ H fa xs F) (_:PolL κ H ga ys G) (_:Trm F) (_:Trm G) (_:2<=F.length) (_:F.length<=8) (_:G.length<=7) (_:(κ = .q->F.length<=4/\G.length<=3)) (_:ShZ κ F) (_:(∀x∈G,QN κ ((1728:Nat):Int) (2^60) x)) (_:∀(H':Hp) (R:Addr) (zs:List V) (r:ZZlk κ),Same H H'->PolL κ H' R zs r->Trm r->(∃a b,Fs a/\Fs b/\sr r=sr F*a+sr G*b)->Mon r->(∃a c,Fs a/\Fs c/\sr F=a*sr r/\sr G=c*sr r)->ShZ κ r->r.length<=F.length->Q (.ref R) H'):Zg9 CF CR vs H Q zE
section
variable{P:Program}{w:World}{K:ZZfg}{mg:ZZmg}{base:Heap}{CP CF CR cN cF:Addr}
theorem sc_common_part:FnScope ["kind","f","g","polys","upper","lower"] ["kind","f","g"] (Zah ZcH):=‹2›
theorem Zf3(h:Here K mg "common_part" ZcH) (pc:Pc K mg CP) (hI:HasI P w K mg base CP 1 ["self","under"] (Zeb CP)) (hT:HasM P w K mg base CP "times" 6 ["self","one","other"] [] (Zde CP CF CR)) (h_bottom_factor:Has P w K mg base "bottom_factor" 10 ["kind","f"] (ZiH CF CR)) (h_common_row:Has P w K mg base "common_row" 10 ["kind","upper","lower"] (Ze6 CF CR (Ze6 CF CR spF))):Has P w K mg base "common_part" 11 ["kind","f","g"] (Zg9 CF CR):=by
 refine h.has (λ_ _ F=>F.b3 λ_ _ _ _ _ _ _ _ _=>rfl) λf fd F=>F.ok sc_common_part (λvs H Q E h=>?_) (λcdv A outer s H vs Q E hr h=>?_)
 ·obtain ⟨_,_,_,_,_,_,_,_,rfl,_⟩:=h
  rfl
 obtain ⟨κ,sk,fa,ga,xs,ys,F,G,rfl,hk,pF,pG,tF,tG,l2,l8,g7,lq,⟨Df,Sf,d0,dl,sl,s3,qF⟩,qG,kk⟩:=h;have nd:=sc_common_part.nd;refine ⟨_,(Zac (Zak (i:=3) nd rfl (Or.inl rfl) (ZeX hI (hr.mono ∅) (by rfl) pc.m (Zaa (pv 0) Zab)))
  (Zac (Zak (i:=4) nd rfl (Or.inl rfl) (ZaN (Zaa (Zaz (pv 3) hr (Zaa (Zam h_bottom_factor hr (by rfl) (Zaa (pv 0) (Zaa (pv 1) Zab))) (Zaa (pv 1) Zab))) Zab)))
  (Zac (Zak (i:=5) nd rfl (Or.inl rfl) (ZaN (Zaa (Zaz (pv 3) hr (Zaa (Zam h_bottom_factor hr (by rfl) (Zaa (pv 0) (Zaa (pv 2) Zab))) (Zaa (pv 2) Zab))) Zab)))
  (Zae (Zal (Zao Zap (Zam h_common_row hr (by rfl) (Zaa (pv 0) (Zaa (pv 4) (Zaa (pv 5) Zab)))) Zad (λ_ _=>rfl))))))),?_⟩
 refine ⟨_,rfl,λpo dxp npo ndxp nexp=>⟨po,dxp,sk,rfl,Zaf,rfl,?_⟩⟩;have Sx:∀o1 o2 o3,Same H (upd (upd (upd H dxp o1) po o2) po o3):=λ_ _ _ b o e=>by
  rw[Zau (Zay e npo),Zau (Zay e npo),Zau (Zay e ndxp)];exact e
 refine ZrP (i:=3) (C:=λH1=>Same H H1/\H1 po=some (.ins CP dxp [("under", .ref sk)])) ?first ?second
 case second=>exact ⟨Sx _ _ _,Zaf⟩
 rintro H1 ⟨S1,hpo⟩;have po1:∀ {H2},Same H1 H2->PoA CP CF CR κ H2 po:=fun {H2} S=>⟨dxp,sk,S _ _ hpo,(hk.same S1).same S⟩
 have bS:Sf<=10^200:=Q0 sl ∅;have bD:Df<=10^200:=Q0 dl bS;have c1:∀ {x:κ.F} {N:Nat},QN κ 1 N x->∀u∈[x],QN κ ((1:Nat):Int) N u:=λh u hu=>by rw[Q6.mp hu];exact h
 refine ⟨_,rfl,po,CP,dxp,_,_,_,_,rfl,hpo,pc.cl,hT.mono ∅,rfl,_,rfl,_,rfl,κ,sk,fa,xs,F,Df,Sf,rfl,hk.same S1,pF.same S1,qF,d0,Q5 bD ∅,λH2 aa av y S2 naa pA y0 qy qyF=>?_⟩;have S02:=S1.trans S2;refine ⟨_,rfl,κ,po,aa,fa,_,xs,[y],F,1,Df,Df,Sf,rfl,po1 S2,pA,pF.same S02,by show 1<=90;decide,⋯,c1 qy,qF,∅,∅,d0,bD,Q0 bD ∅,Q0 bS ∅,λH3 xa xv X S3 nxa pX tX eX lX=>⟨(by show 1<=sizeLine;decide),λua nua=>?_⟩⟩;have lX:X.length<=1+F.length-1:=lX;have Sua:=Zag nua (.lst [.ref xa]);have rU:R3 κ (upd H3 ua (.lst [.ref xa])) ua [xa] [X]:=⟨Zaf,RowsX.nil.snoc (pX.same Sua).l (pX.same Sua).al,rfl⟩;generalize upd H3 ua (.lst [.ref xa])=H4 at *;have S24:=S3.trans Sua;have S04:=S02.trans S24;refine ⟨_,rfl,po,CP,dxp,_,_,_,_,rfl,(S2.trans S24) _ _ hpo,pc.cl,hT.mono ∅,rfl,_,rfl,_,rfl,κ,sk,ga,ys,G,1728,2^60,rfl,hk.same S04,pG.same S04,qG,∅,∅,λH5 ba bv z S5 nba pB z0 qz qzG=>?_⟩;have S05:=S04.trans S5;refine ⟨_,rfl,κ,po,ba,ga,_,ys,[z],G,1,1728,1728,2^60,rfl,po1 (S2.trans (S24.trans S5)),pB,pG.same S05,by show 1<=90;decide,⋯,c1 qz,qG,∅,∅,∅,∅,∅,∅,λH6 ya yv Y S6 nya pY tY eY lY=>⟨(by show 1<=sizeLine;decide),λla nla=>?_⟩⟩;have lY:Y.length<=1+G.length-1:=lY;have Sla:=Zag nla (.lst [.ref ya]);have rL:R3 κ (upd H6 la (.lst [.ref ya])) la [ya] [Y]:=⟨Zaf,RowsX.nil.snoc (pY.same Sla).l (pY.same Sla).al,rfl⟩;have rU:=rU.same (S5.trans (S6.trans Sla));generalize upd H6 la (.lst [.ref ya])=H7 at *;have S07:=S05.trans (S6.trans Sla);have gX:=ZnY y0 tF eX;have gY:=ZnY z0 tG eY;have qX:=Zqq eX ⋯ qyF;have qY:=Zqq eY ⋯ qzG;have cr:CrJ (sr F) (sr G) X Y:=Znb y0 z0 tX tY rfl rfl eX eY;have one:∀ {Pr:κ.F->Prop} {X:ZZlk κ},(∀x∈X,Pr x)->AllR Pr [X]:=λh f hf=>by rw[Q6.mp hf];exact h
 have fin:∀ {c:Nat},(κ = .q->c=0\/F.length<=2)->∀(H':Hp) (ra:Addr) (rs:ZZla) (R:ZZll κ),Same H7 H'->R3 κ H' ra rs R->CrP (sr F) (sr G) c (R.getD 0 [])->∃(b:Addr),atI (rs.map V.ref) 0=some (.ref b)/\H' ra=some (.lst (rs.map V.ref))/\Q (.ref b) H':=fun {c} hc H' ra rs R S' rR co=>by
  obtain ⟨b,zs,gb,pb⟩:=rR.get (i:=0) ∅;refine ⟨b,ZaR (i:=0) gb,rR.l,?_⟩;rcases co.o with ⟨-,e,-⟩|⟨mo,a,c',fa',fc,ef,eg⟩
  ·exfalso
   have:=ZlJ tF e;rw[this] at l2;exact absurd l2 (by show ¬2<=0;decide)
  ·have lr:=Zo0 mo tF ⋯ fa' ef;exact kk H' b zs _ (S07.trans S') pb co.t co.b mo ⟨a,c',fa',fc,ef,eg⟩ (ShZ.of co.z lr hc) lr
 refine ⟨_,rfl,_,rfl,_,rfl,κ,sk,ua,la,[xa],[ya],[X],[Y],rfl,hk.same S07,rU,rL,(λlt=>?_),λle=>?_⟩
 ·-- the second one is longer
  have lt:X.length<Y.length:=lt;refine ⟨κ,sk,la,ua,[ya],[xa],[Y],[X],rfl,hk.same S07,rL,rU,(λq=>?_),λ_=>⟨sr F,sr G,1,cr.swap,∅,?_,(λe=>?_),?_,?_,(λz=>?_),λH' ra rs R S' rR co=>?_⟩⟩
  ·have q:Y.length<X.length:=q;omega
  ·show Y.length<=9;omega
  ·have:=lq e;show X.length<=2/\Y.length<=3;omega
  ·exact one λx hx=>ZiI (qY x hx) λ_=>Q3 _
  ·exact one λx hx=>ZiI (qX x hx) λ_=>sl
  ·have z:X.length=0:=z;omega
  ·obtain ⟨b,e1,e2,e3⟩:=fin (c:=1) (λe => .inr (by have:=lq e;omega)) H' ra rs R S' rR co;exact ⟨_,_,_,_,rfl,rfl,SqL.of e2,e1,e3⟩
 ·have le:Y.length<=X.length:=le
  by_cases l3:3<=F.length
  ·refine ⟨sr F,sr G,0,cr,∅,?_,(λe=>?_),?_,?_,(λz=>?_),λH' ra rs R S' rR co=>?_⟩
   ·show X.length<=9;omega
   ·have:=lq e;show Y.length<=3/\X.length<=4;omega
   ·exact one λx hx=>ZiI (qX x hx) λ_=>s3 l3
   ·exact one λx hx=>ZiI (qY x hx) λ_=>Q3 _
   ·exact ⟨1,Sf,∅,∅,⋯,Q0 sl ∅,λ_=>⟨rfl,sl⟩,λ_ _=>s3 l3,qX⟩
   ·obtain ⟨b,e1,e2,e3⟩:=fin (c:=0) (λe => .inl rfl) H' ra rs R S' rR co;exact ⟨_,_,_,_,rfl,rfl,SqL.of e2,e1,e3⟩
  ·refine ⟨sr F,sr G,2,cr,∅,?_,(λe=>?_),?_,?_,(λz=>?_),λH' ra rs R S' rR co=>?_⟩
   ·show X.length<=9;omega
   ·have:=lq e;show Y.length<=2/\X.length<=3;omega
   ·exact one λx hx=>ZiI (qX x hx) λ_=>sl
   ·exact one λx hx=>ZiI (qY x hx) λ_=>Q3 _
   ·exact ⟨1,Sf,∅,∅,⋯,Q0 sl ∅,λ_=>⟨rfl,sl⟩,λz=>absurd z ∅,qX⟩
   ·obtain ⟨b,e1,e2,e3⟩:=fin (c:=2) (λe => .inr ⋯) H' ra rs R S' rR co;exact ⟨_,_,_,_,rfl,rfl,SqL.of e2,e1,e3⟩
end
end My
namespace My.Rg
section
variable{α:Type}[Lean.Grind.CommRing α]
def xS(s:Ps α):Ps α:=⟨λk=>match k with
 |0=>0
 |k+1=>s.c k⟩
theorem ZnZ(s:Ps α):(xS s).c 0=0:=rfl
theorem Zo1(s:Ps α)(k:Nat):(xS s).c (k+1)=s.c k:=rfl
theorem xS_mul(s t:Ps α):xS s*t=xS (s*t):=Ps.ext λn=>by
 cases n with
 |zero =>
  rw[ZnZ,Ps.c_mul];show 0+(xS s).c 0*t.c 0=0;rw[ZnZ];grind
 |succ n =>
  rw[Zo1,Ps.c_mul,Ps.c_mul,ZbY,ZnZ];have:Sg (λi=>(xS s).c (i+1)*t.c (n+1-(i+1))) (n+1)=Sg (λi=>s.c i*t.c (n-i)) (n+1):=Sg_congr λi _=>by
   rw[Zo1,show n+1-(i+1)=n-i by omega]
  rw[this];grind
theorem Sg_skip(g:Nat->α){p:Nat}:∀n,p<=n->Sg g (n+1)=g p+Sg (λk=>g (skip p k)) n
 |0,h=>by
  obtain rfl:p=0:=⋯;show 0+g 0=g 0+0;grind
 |n+1,h=>by
  by_cases q:p=n+1
  ·subst q;show Sg g (n+1)+g (n+1)=g (n+1)+Sg _ (n+1);rw[Sg_congr (g:=g) (h:=λk=>g (skip (n+1) k)) λk hk=>by rw[Zex hk]];grind
  ·show Sg g (n+1)+g (n+1)=g p+(Sg _ n+g (skip p n));rw[Sg_skip g (p:=p) n ⋯,ZdO (show p<=n by omega)];grind
theorem Sg_mulR(c:α)(h:Nat->α)(n:Nat):Sg h n*c=Sg (λi=>h i*c) n:=by
 have:Sg h n*c=c*Sg h n:=by grind
 rw[this,Sg_mul];exact Sg_congr λi _=>by grind
theorem Zn0{a:Nat->Nat->α}{m:Nat}{u u1 u2:Nat->α}{c:α}(h:∀r,r<m->u r=u1 r+c*u2 r):∀k i,i<m->im a m u k i=im a m u1 k i+c*im a m u2 k i
 |0,i,hi=>h i hi
 |k+1,i,hi=>by
  show Sg _ m=Sg _ m+c*Sg _ m;rw[Sg_mul,Sg_add];exact Sg_congr λj hj=>by rw[Zn0 h k j hj];grind
theorem Zjz(a:Nat->Nat->α)(m:Nat)(u:Nat->α):∀k i,im a m (λr=>Sg (λj=>a r j*u j) m) k i=im a m u (k+1) i
 |0,i=>rfl
 |k+1,i=>by
  show Sg _ m=Sg _ m;exact Sg_congr λj _=>by rw[Zjz a m u k j]
theorem ZlX{a:Nat->Nat->α}{m:Nat}{u:Nat->α}(h:∀r,r<m->u r=0):∀k i,i<m->im a m u k i=0
 |0,i,hi=>h i hi
 |k+1,i,hi=>by
  show Sg _ m=0;rw[Sg_congr (g:=λ_=>(0:α)) λj hj=>by rw[ZlX h k j hj];grind,Sg_zero]
def Stp(a:Nat->Nat->α)(m:Nat)(v:Nat->α)(E:Nat->Ps α)(f:Ps α):Prop:=∀r,r<m->xS (E r)=Sg (λj=>Ps.con (a r j)*E j) m+Ps.con (v r)*f
theorem Stp.z{a:Nat->Nat->α}{m:Nat}{v:Nat->α}{E:Nat->Ps α}{f:Ps α}(h:Stp a m v E f){r:Nat}(hr:r<m):Sg (λj=>a r j*(E j).c 0) m+v r*f.c 0=0:=by
 have:=congrArg (λs=>Ps.c s 0) (h r hr);have:(xS (E r)).c 0=(Sg (λj=>Ps.con (a r j)*E j) m+Ps.con (v r)*f).c 0:=this;rw[Ps.c_add,Ps.c_Sg,ZnZ,show (Ps.con (v r)*f).c 0=v r*f.c 0 from Ps.con_mul _ _ _] at this;rw[this]
 congr 1
 exact Sg_congr λj _=>(Ps.con_mul (a r j) (E j) 0).symm
theorem Stp.s{a:Nat->Nat->α}{m:Nat}{v:Nat->α}{E:Nat->Ps α}{f:Ps α}(h:Stp a m v E f){r:Nat}(hr:r<m)(k:Nat):(E r).c k=Sg (λj=>a r j*(E j).c (k+1)) m+f.c (k+1)*v r:=by
 have:=congrArg (λs=>Ps.c s (k+1)) (h r hr);have:(xS (E r)).c (k+1)=(Sg (λj=>Ps.con (a r j)*E j) m+Ps.con (v r)*f).c (k+1):=this;rw[Ps.c_add,Ps.c_Sg,Zo1,show (Ps.con (v r)*f).c (k+1)=v r*f.c (k+1) from Ps.con_mul _ _ _] at this;rw[this];have e:Sg (λj=>(Ps.con (a r j)*E j).c (k+1)) m=Sg (λj=>a r j*(E j).c (k+1)) m:=Sg_congr λj _=>Ps.con_mul (a r j) (E j) (k+1);rw[e];grind
theorem Stp.of{a:Nat->Nat->α}{m:Nat}{v:Nat->α}{E:Nat->Ps α}{f:Ps α}(h0:∀r,r<m->Sg (λj=>a r j*(E j).c 0) m+v r*f.c 0=0)(h1:∀r,r<m->∀k,(E r).c k=Sg (λj=>a r j*(E j).c (k+1)) m+f.c (k+1)*v r):Stp a m v E f:=λr hr=>Ps.ext λk=>by
 rw[Ps.c_add,Ps.c_Sg,show (Ps.con (v r)*f).c k=v r*f.c k from Ps.con_mul _ _ _,Sg_congr (h:=λj=>(Ps.con (a r j)*E j).c k) (g:=λj=>a r j*(E j).c k) λj _=>Ps.con_mul (a r j) (E j) k]
 cases k with
 |zero=>rw[ZnZ,h0 r hr]
 |succ k=>rw[Zo1,h1 r hr k];grind
theorem Stp.tele{a:Nat->Nat->α}{m:Nat}{v:Nat->α}{E:Nat->Ps α}{f:Ps α}(h:Stp a m v E f){i:Nat}(hi:i<m):∀N,Sg (λk=>f.c k*im a m v k i) (N+1)+im a m (λr=>(E r).c N) (N+1) i=0
 |0=>by
  have:=h.z hi;show 0+f.c 0*v i+Sg (λj=>a i j*(E j).c 0) m=0;grind
 |N+1=>by
  have ih:=Stp.tele h hi N;have e:=Zn0 (a:=a) (m:=m) (u:=λr=>(E r).c N) (u1:=λr=>Sg (λj=>a r j*(E j).c (N+1)) m) (u2:=v) (c:=f.c (N+1)) (λr hr=>h.s hr N) (N+1) i hi;rw[Zjz] at e;show Sg _ (N+1)+f.c (N+1)*im a m v (N+1) i+_=0;rw[e] at ih;generalize im a m (λr=>(E r).c (N+1)) (N+1+1) i=x at *;generalize im a m v (N+1) i=y at *;generalize Sg (λk=>f.c k*im a m v k i) (N+1)=z at *;grind
theorem Stp.nought{a:Nat->Nat->α}{m:Nat}{v:Nat->α}{E:Nat->Ps α}{f:Ps α}(h:Stp a m v E f){N:Nat}(hE:∀r,r<m->(E r).c N=0){i:Nat}(hi:i<m):Sg (λk=>f.c k*im a m v k i) (N+1)=0:=by
 have:=h.tele hi N;rw[ZlX hE _ i hi] at this;grind
theorem Znc{a:Nat->Nat->α}{m:Nat}{D:Nat->Ps α}(h:∀r,r<m->xS (D r)=Sg (λj=>Ps.con (a r j)*D j) m){N:Nat}(z:∀r,r<m->∀k,N<=k->(D r).c k=0):∀r,r<m->D r=0:=by
 have st:Stp a m (λ_=>0) D 0:=λr hr=>by
  rw[h r hr];generalize Sg (λj=>Ps.con (a r j)*D j) m=x;generalize Ps.con (0:α)=y;grind
 have q:∀n,(∀r,r<m->∀k,n<=k->(D r).c k=0)->∀r,r<m->∀k,(D r).c k=0:=λn=>by
  induction n with
  |zero=>exact λq r hr k=>q r hr k (Qf _)
  |succ n ih =>
   intro q;refine ih λr hr k hk=>?_;rw[st.s hr k,Sg_congr (g:=λ_=>(0:α)) λj hj=>by rw[q j hj (k+1) ⋯];grind,Sg_zero,Ps.c_zero];grind
 exact λr hr=>Ps.ext λk=>by rw[q N z r hr k,Ps.c_zero]
def Gs(a:Nat->Nat->α)(m:Nat)(v:Nat->α)(h:Ps α)(n r:Nat):Ps α:=⟨λk=>Sg (λt=>h.c (k+1+t)*im a m v t r) n⟩
theorem Zn1(a:Nat->Nat->α)(m:Nat)(v c:Nat->α)(n r:Nat):Sg (λj=>a r j*Sg (λt=>c (t+1)*im a m v t j) n) m+v r*c 0=Sg (λt=>c t*im a m v t r) (n+1):=by
 rw[ZbY];have e:Sg (λj=>a r j*Sg (λt=>c (t+1)*im a m v t j) n) m=Sg (λt=>c (t+1)*im a m v (t+1) r) n:=by
  rw[Sg_congr (g:=λj=>Sg (λt=>c (t+1)*(a r j*im a m v t j)) n) λj _=>by
   rw[Sg_mul];exact Sg_congr λt _=>by grind,Sg_comm]
  exact Sg_congr λt _=>by rw[<-Sg_mul];rfl
 rw[e];show _=c 0*v r+_;grind
theorem gs_stp{a:Nat->Nat->α}{m:Nat}{v:Nat->α}{h:Ps α}{n:Nat}(hn:∀k,n<=k->h.c k=0)(hz:∀i,i<m->Sg (λk=>h.c k*im a m v k i) n=0):Stp a m v (Gs a m v h n) h:=by
 refine Stp.of (λr hr=>?_) λr hr k=>?_
 ·show Sg (λj=>a r j*Sg (λt=>h.c (0+1+t)*im a m v t j) n) m+v r*h.c 0=0;have:=Zn1 a m v h.c n r;rw[show Sg (λt=>h.c t*im a m v t r) (n+1)=Sg (λt=>h.c t*im a m v t r) n+h.c n*im a m v n r from rfl,hz r hr,hn n (Q3 _)] at this;have e:∀j t,h.c (0+1+t)*im a m v t j=h.c (t+1)*im a m v t j:=λj t=>by rw[show 0+1+t=t+1 by omega]
  simp only[e]
  rw[this];grind
 ·show Sg (λt=>h.c (k+1+t)*im a m v t r) n=Sg (λj=>a r j*Sg (λt=>h.c (k+1+1+t)*im a m v t j) n) m+h.c (k+1)*v r;have:=Zn1 a m v (λt=>h.c (k+1+t)) n r;rw[show Sg (λt=>h.c (k+1+t)*im a m v t r) (n+1)=Sg (λt=>h.c (k+1+t)*im a m v t r) n+h.c (k+1+n)*im a m v n r from rfl,hn (k+1+n) ⋯] at this;have e:∀j t,h.c (k+1+1+t)*im a m v t j=h.c (k+1+(t+1))*im a m v t j:=λj t=>by rw[show k+1+1+t=k+1+(t+1) by omega]
  simp only[e]
  have this:Sg (λj=>a r j*Sg (λt=>h.c (k+1+(t+1))*im a m v t j) n) m+v r*h.c (k+1)=Sg (λt=>h.c (k+1+t)*im a m v t r) n+0*im a m v n r:=this;grind
theorem stp_two{a:Nat->Nat->α}{m:Nat}{v:Nat->α}{E G:Nat->Ps α}{f h:Ps α}(hE:Stp a m v E f)(hG:Stp a m v G h){N:Nat}(z:∀r,r<m->∀k,N<=k->(f*G r-h*E r).c k=0){r:Nat}(hr:r<m):f*G r=h*E r:=by
 have xs:∀s t:Ps α,xS (s-t)=xS s-xS t:=λs t=>Ps.ext λk=>by
  cases k with
  |zero=>rw[Ps.c_sub,ZnZ,ZnZ,ZnZ];grind
  |succ k=>rw[Ps.c_sub,Zo1,Zo1,Zo1,Ps.c_sub]
 have xm:∀s t:Ps α,xS (s*t)=s*xS t:=λs t=>by
  have:s*t=t*s:=by grind
  rw[this,<-xS_mul];grind
 have q:=Znc (a:=a) (D:=λr=>f*G r-h*E r) (λr hr=>by
  show xS (f*G r-h*E r)=Sg (λj=>Ps.con (a r j)*(f*G j-h*E j)) m;rw[xs,xm,xm,hG r hr,hE r hr];have e:Sg (λj=>Ps.con (a r j)*(f*G j-h*E j)) m=f*Sg (λj=>Ps.con (a r j)*G j) m+(0-h)*Sg (λj=>Ps.con (a r j)*E j) m:=by
   rw[Sg_mul,Sg_mul,Sg_add];exact Sg_congr λj _=>by
    generalize Ps.con (a r j)=x;generalize G j=g;generalize E j=e;grind
  rw[e];generalize Sg (λj=>Ps.con (a r j)*G j) m=x;generalize Sg (λj=>Ps.con (a r j)*E j) m=y;generalize Ps.con (v r)=w;grind) z r hr
 have q:f*G r-h*E r=0:=q;generalize G r=g at *;generalize E r=e at *;grind
def tpS(a:Nat->Nat->α)(m:Nat)(v:Nat->α)(r:Nat):Ps α:=⟨λj=>if j<m then (Vz a m v r*qz m a).c (m-1-j) else 0⟩
theorem tp_stp{a:Nat->Nat->α}{m:Nat}{v:Nat->α}{f:Ps α}(hf:∀j,j<=m->f.c j=(qz m a).c (m-j))(hz:∀j,m<j->f.c j=0):Stp a m v (tpS a m v) f:=by
  have lo:∀r k,k<m->(tpS a m v r).c k=(Vz a m v r*qz m a).c (m-1-k):=λr k h=>if_pos h;have hi:∀r k,m<=k->(tpS a m v r).c k=0:=λr k h=>if_neg ⋯;refine Stp.of (λr hr=>?_) λr hr k=>?_
  · have e:=climbS a m v r (m-1)
    rw[show m-1+1=m by omega,ZnT hr (Q3 m)] at e;rw[Sg_congr (g:=λj=>a r j*(Vz a m v j*qz m a).c (m-1)) λj _=>by rw[lo j 0 ⋯,Uz],hf 0 (Qf _),Uz];rw[e]; grind
  · by_cases q:k+1<m
    · rw[lo r k ⋯,Sg_congr (g:=λj=>a r j*(Vz a m v j*qz m a).c (m-1-(k+1))) λj _=>by rw[lo j (k+1) q],hf (k+1) ⋯,show m-1-k=m-1-(k+1)+1 by omega,climbS,show m-1-(k+1)+1=m-(k+1) by omega]
    · have zs:Sg (λj=>a r j*(tpS a m v j).c (k+1)) m=0:=by
        rw[Sg_congr (g:=λ_=>(0:α)) λj _=>by rw[hi j (k+1) ⋯]; grind,Sg_zero]
      rw[zs]
      by_cases q2:k+1=m
      · rw[lo r k ⋯,hf (k+1) ⋯,show m-1-k=0 by omega,show m-(k+1)=0 by omega,climb0,qz_c0]; grind
      · rw[hi r k ⋯,hz (k+1) ⋯]; grind
end
end My.Rg
namespace My
open PySem L2 PyProof.Rows
section
variable{κ:KX}
theorem stz:∀(q n:Nat),q<n->∀c:Nat->Nat->κ.F,∃h:Nat->κ.F,(∃k,k<n/\h k≠0)/\∀l,l<q->Rg.Sg (λk=>h k*c k l) n=0
 |0,n,hn,c=>⟨λ_=>1,⟨0,hn,ZdP⟩,λl hl=>⋯⟩
 |q+1,0,hn,c=>⋯
 |q+1,n+1,hn,c=>by
  by_cases ex:∃p,p<n+1/\c p q≠0
  ·obtain ⟨p,hp,ne⟩:=ex;have mi:=Fd.mul_inv _ ne;obtain ⟨h,⟨k0,hk0,h0⟩,hz⟩:=stz q n ⋯ λk l=>c (Rg.skip p k) l-c (Rg.skip p k) q*Fd.inv (c p q)*c p l;have hp':∀k,Rg.skip p k≠p:=λk=>by unfold Rg.skip;split <;> omega
   have us:∀k,(if Rg.skip p k<p then Rg.skip p k else Rg.skip p k-1)=k:=λk=>by
    unfold Rg.skip
    by_cases q:k<p
    ·rw[if_pos q,if_pos q]
    ·rw[if_neg q,if_neg ⋯,Wc]
   obtain ⟨g,gp,gs⟩:∃g:Nat->κ.F,g p=0-Rg.Sg (λk=>h k*(c (Rg.skip p k) q*Fd.inv (c p q))) n/\∀k,g (Rg.skip p k)=h k:=⟨λk=>if k=p then 0-Rg.Sg (λk=>h k*(c (Rg.skip p k) q*Fd.inv (c p q))) n else h (if k<p then k else k-1),if_pos rfl,λk=>by
    show (if Rg.skip p k=p then _ else h (if Rg.skip p k<p then Rg.skip p k else Rg.skip p k-1))=_;rw[if_neg (hp' k),us]⟩
   refine ⟨g,⟨Rg.skip p k0,by unfold Rg.skip;split <;> omega,by rw[gs];exact h0⟩,λl hl=>?_⟩
   ·rw[Rg.Sg_skip _ n (by omega:p<=n),gp,Rg.Sg_congr (h:=λk=>g (Rg.skip p k)*c (Rg.skip p k) l) (g:=λk=>h k*c (Rg.skip p k) l) λk _=>by rw[gs]];have e:Rg.Sg (λk=>h k*(c (Rg.skip p k) l-c (Rg.skip p k) q*Fd.inv (c p q)*c p l)) n=Rg.Sg (λk=>h k*c (Rg.skip p k) l) n+(0-c p l)*Rg.Sg (λk=>h k*(c (Rg.skip p k) q*Fd.inv (c p q))) n:=by
     rw[Rg.Sg_mul,Rg.Sg_add];exact Rg.Sg_congr λk _=>by grind
    by_cases lq:l=q
    ·subst lq;have z:Rg.Sg (λk=>h k*(c (Rg.skip p k) l-c (Rg.skip p k) l*Fd.inv (c p l)*c p l)) n=0:=by
      rw[Rg.Sg_congr (g:=λ_=>(0:κ.F)) λk _=>?_,Rg.Sg_zero];generalize c (Rg.skip p k) l=x;have:x-x*Fd.inv (c p l)*c p l=x-x*(c p l*Fd.inv (c p l)):=by grind
      rw[this,mi];grind
     rw[z] at e;generalize Rg.Sg (λk=>h k*c (Rg.skip p k) l) n=x at *;generalize Rg.Sg (λk=>h k*(c (Rg.skip p k) l*Fd.inv (c p l))) n=y at *;grind
    ·have z:=hz l ⋯;rw[e] at z;generalize Rg.Sg (λk=>h k*c (Rg.skip p k) l) n=x at *;generalize Rg.Sg (λk=>h k*(c (Rg.skip p k) q*Fd.inv (c p q))) n=y at *;grind
  ·obtain ⟨h,hk,hz⟩:=stz q (n+1) ⋯ c;refine ⟨h,hk,λl hl=>?_⟩
   by_cases lq:l=q
   ·subst lq;rw[Rg.Sg_congr (g:=λ_=>(0:κ.F)) λk hk=>?_,Rg.Sg_zero];rw[show c k l=0 from Classical.byContradiction λz=>ex ⟨k,hk,z⟩];grind
   ·exact hz l ⋯
theorem Znd{G R:ZZll κ}{n m:Nat}{ls:List Nat}(hn:G.length=n)(k1:∀u,Ker R n m u↔Ker G n m u)(ech:Ech R n m ls 1)(ind:∀h:Nat->κ.F,(∀j,j<m->Rg.Sg (λk=>h k*ent G k j) n=0)->∀k,k<n->h k=0):ls.length=n:=by
 have le:=ech.le;refine Classical.byContradiction λne=>?_;obtain ⟨h,⟨k,hk,h0⟩,hz⟩:=stz ls.length n ⋯ λk l=>ent G k (ls.getD l 0);refine h0 (ind h (λj hj=>?_) k hk);have w:∀k,k<n->ent G k j=Rg.Sg (λl=>ent G k (ls.getD l 0)*ent (R.take ls.length) l j) ls.length:=λk hk =>
  Zgk (Zm1 ech) rfl (w:=ent G k) (λu ku=>((k1 u).mp ((Zm2 ech u).mp ku)) k hk) j hj
 rw[Rg.Sg_congr (g:=λk=>Rg.Sg (λl=>(h k*ent G k (ls.getD l 0))*ent (R.take ls.length) l j) ls.length) λk hk=>by
  rw[w k hk,Rg.Sg_mul];exact Rg.Sg_congr λl _=>by grind,Rg.Sg_comm,Rg.Sg_congr (g:=λ_=>(0:κ.F)) λl hl=>?_,Rg.Sg_zero]
 rw[<-Rg.Sg_mulR,hz l hl];grind
theorem Zne{d:ZZlk κ}{e:Sr κ}(mo:Mon d)(fe:Fs e)(h:e*sr d=0):e=0:=by
 obtain ⟨N,hN⟩:=fe;obtain ⟨m,hm⟩:∃m,d.length=m+1:=⟨d.length-1,by have:=mo.1;omega⟩;have top:=mo.2;rw[hm,Wc] at top;have z:∀n,(∀k,n<=k->e.c k=0)->∀k,e.c k=0:=λn=>by
  induction n with
  |zero=>exact λq k=>q k (Qf _)
  |succ n ih =>
   intro q;refine ih λk hk=>?_
   by_cases ek:k=n
   ·subst ek;have h1:(e*sr d).c (k+m)=0:=by rw[h,Rg.Ps.c_zero]
    rw[Rg.Ps.c_mul,show k+m+1=k+1+m by omega,Zd9 (h:=λi=>e.c i*(sr d).c (k+m-i)) (n:=k+1) m λi hi=>by
     show e.c i*_=0;rw[q i hi];grind] at h1
    have e2:Rg.Sg (λi=>e.c i*(sr d).c (k+m-i)) (k+1)=Rg.Sg (λ_=>0) k+e.c k*(sr d).c (k+m-k):=by
     show Rg.Sg _ k+_=_
     congr 1
     refine Rg.Sg_congr λi hi=>?_;rw[ZbZ,Zas ⋯];grind
    rw[e2,Rg.Sg_zero,ZbZ,show k+m-k=m by omega,top] at h1;grind
   ·exact q k ⋯
 exact Rg.Ps.ext λk=>by rw[z N hN k,Rg.Ps.c_zero]
theorem Zgm{d:ZZlk κ}{x y:Sr κ}(mo:Mon d)(fx:Fs x)(fy:Fs y)(h:x*sr d=y*sr d):x=y:=by
 have:=Zne mo (fx.sub fy) (by generalize sr d=s at *;grind);grind
theorem Fs.sg{h:Nat->Sr κ}:∀n,(∀i,i<n->Fs (h i))->Fs (Rg.Sg h n)
 |0,_=>Fs.zero
 |n+1,e=>(Fs.sg n λi hi=>e i ⋯).add (e n ⋯)
theorem Fs.xs{s:Sr κ}(h:Fs s):Fs (Rg.xS s):=by
 obtain ⟨N,h⟩:=h;refine ⟨N+1,λk hk=>?_⟩;obtain ⟨j,rfl⟩:∃j,k=j+1:=⟨k-1,⋯⟩;exact h j ⋯
theorem Fs.con(x:κ.F):Fs (Rg.Ps.con x:Sr κ):=by rw[<-ZlH];exact Fs.cn x
theorem Zn2{D:Nat->Sr κ}:∀m,(∀r,r<m->Fs (D r))->∃N,∀r,r<m->∀k,N<=k->(D r).c k=0
 |0,_=>⟨0,λr hr=>⋯⟩
 |m+1,h=>by
  obtain ⟨N,hN⟩:=Zn2 m λr hr=>h r ⋯;obtain ⟨M,hM⟩:=h m ⋯;refine ⟨N+M,λr hr k hk=>?_⟩
  by_cases q:r=m
  ·subst q;exact hM k ⋯
  ·exact hN r ⋯ k ⋯
def Cmb(χ:Sr κ)(T:Nat->Sr κ)(i:Nat)(s:Sr κ):Prop:=∃(a:Sr κ) (b:Nat->Sr κ),Fs a/\(∀r,Fs (b r))/\s=χ*a+Rg.Sg (λr=>T r*b r) i
theorem Cmb.first(χ:Sr κ)(T:Nat->Sr κ):Cmb χ T 0 χ:=⟨1,λ_=>0,Fs.one,λ_=>Fs.zero,by show χ=χ*1+0;grind⟩
theorem Cmb.stay{χ:Sr κ}{T:Nat->Sr κ}{i:Nat}{s:Sr κ}(h:Cmb χ T i s):Cmb χ T (i+1) s:=by
 obtain ⟨a,b,fa,fb,e⟩:=h;refine ⟨a,λr=>if r=i then 0 else b r,fa,λr=>by show Fs (if r=i then 0 else b r);split;exact Fs.zero;exact fb r,?_⟩;show s=χ*a+(Rg.Sg _ i+T i*(if i=i then 0 else b i));rw[if_pos rfl,Rg.Sg_congr (g:=λr=>T r*b r) λr hr=>by show T r*(if r=i then 0 else b r)=_;rw[if_neg ⋯],e];generalize Rg.Sg (λr=>T r*b r) i=x;generalize T i=y;grind
theorem Cmb.step{χ:Sr κ}{T:Nat->Sr κ}{i:Nat}{s t x y:Sr κ}(h:Cmb χ T i s)(fx:Fs x)(fy:Fs y)(e':t=s*x+T i*y):Cmb χ T (i+1) t:=by
 obtain ⟨a,b,fa,fb,e⟩:=h;refine ⟨a*x,λr=>if r=i then y else b r*x,fa.mul fx,λr=>by show Fs (if r=i then y else b r*x);split;exact fy;exact (fb r).mul fx,?_⟩;show t=χ*(a*x)+(Rg.Sg _ i+T i*(if i=i then y else b i*x));rw[if_pos rfl,Rg.Sg_congr (g:=λr=>(T r*b r)*x) λr hr=>by show T r*(if r=i then y else b r*x)=_;rw[if_neg ⋯];generalize T r=u;generalize b r=w;grind,<-Rg.Sg_mulR,e',e];generalize Rg.Sg (λr=>T r*b r) i=x;generalize T i=y;grind
structure Shd (χ:Sr κ) (T:Nat->Sr κ) (i:Nat) (s:ZZlk κ):Prop where
 m:Mon s
 d:∃e,Fs e/\χ=e*sr s
 t:∀r,r<i->∃e,Fs e/\T r=e*sr s
 c:Cmb χ T i (sr s)
theorem Znf{a:Nat->Nat->κ.F}{m n:Nat}{v:Nat->κ.F}{χ:Sr κ}{T:Nat->Sr κ}{s f:ZZlk κ}(st:Rg.Stp a m v T χ)(tn:∀r,r<m->∀k,m<=k->(T r).c k=0)(hs:Shd χ T m s)(ef:χ=sr f*sr s)(mf:Mon f)(lf:f.length=n+1)(ls:s.length+n=m+1) :
    (∀i,i<m->Rg.Sg (λk=>f.getD k 0*Rg.im a m v k i) (n+1)=0)/\∀h:Nat->κ.F,(∀i,i<m->Rg.Sg (λk=>h k*Rg.im a m v k i) n=0)->∀k,k<n->h k=0:=by
  obtain ⟨E,hE⟩:∃E:Nat->Sr κ,∀r,r<m->Fs (E r)/\T r=E r*sr s:=by
    refine ⟨λr=>if h:r<m then Classical.choose (hs.t r h) else 0,λr hr=>?_⟩;show Fs (if h:r<m then Classical.choose (hs.t r h) else 0)/\T r=(if h:r<m then Classical.choose (hs.t r h) else 0)*sr s;rw[dif_pos hr];exact Classical.choose_spec (hs.t r hr)
  have se:Rg.Stp a m v E (sr f):=λr hr=>by
    refine Zgm hs.m (hE r hr).1.xs ((Fs.sg m λj hj=>(Fs.con _).mul (hE j hj).1).add ((Fs.con _).mul (Fs.sr f))) ?_;rw[Rg.xS_mul,<-(hE r hr).2,st r hr,ef];have e:Rg.Sg (λj=>Rg.Ps.con (a r j)*T j) m=Rg.Sg (λj=>Rg.Ps.con (a r j)*E j) m*sr s:=by
      rw[Rg.Sg_mulR];exact Rg.Sg_congr λj hj=>by rw[(hE j hj).2]; generalize Rg.Ps.con (a r j)=x; generalize E j=y; grind
    rw[e];generalize Rg.Sg (λj=>Rg.Ps.con (a r j)*E j) m=x;generalize Rg.Ps.con (v r)=y;grind
  have eN:∀r,r<m->∀k,n<=k->(E r).c k=0:=λr hr=>by
    obtain ⟨N,hN⟩:=(hE r hr).1;obtain ⟨l,hl⟩:∃l,s.length=l+1:=⟨s.length-1,by have:=hs.m.1; omega⟩;have top:=hs.m.2;rw[hl,Wc] at top;have z:∀d,(∀k,n+d<=k->(E r).c k=0)->∀k,n<=k->(E r).c k=0:=λd=>by
      induction d with
      | zero=>exact λq=>q
      | succ d ih =>
        intro q;refine ih λk hk=>?_
        by_cases ek:k=n+d
        · have h1:=tn r hr (k+l) ⋯
          rw[(hE r hr).2,Rg.Ps.c_mul,show k+l+1=k+1+l by omega,Zd9 (h:=λi=>(E r).c i*(sr s).c (k+l-i)) (n:=k+1) l λi hi=>by
            show (E r).c i*_=0;rw[q i ⋯]; grind] at h1
          have e2:Rg.Sg (λi=>(E r).c i*(sr s).c (k+l-i)) (k+1)=Rg.Sg (λ_=>0) k+(E r).c k*(sr s).c (k+l-k):=by
            show Rg.Sg _ k+_=_
            congr 1
            refine Rg.Sg_congr λi hi=>?_;rw[ZbZ,Zas ⋯]; grind
          rw[e2,Rg.Sg_zero,ZbZ,show k+l-k=l by omega,top] at h1;grind
        · exact q k ⋯
    exact z N λk hk=>hN k ⋯
  refine ⟨λi hi=>se.nought (λr hr=>eN r hr n (Q3 _)) hi,λh hz=>?_⟩
  let h':Sr κ:=⟨λk=>if k<n then h k else 0⟩
  have hn:∀k,n<=k->h'.c k=0:=λk hk=>if_neg ⋯;have hl:∀k,k<n->h'.c k=h k:=λk hk=>if_pos hk;have fh:Fs h':=⟨n,hn⟩;have sg:=Rg.gs_stp (a:=a) (m:=m) (v:=v) hn λi hi=>by
    rw[Rg.Sg_congr (g:=λk=>h k*Rg.im a m v k i) λk hk=>by rw[hl k hk]]; exact hz i hi
  have fG:∀r,Fs (Rg.Gs a m v h' n r):=λr=>⟨n,λk hk=>by
    show Rg.Sg (λt=>h'.c (k+1+t)*_) n=0;rw[Rg.Sg_congr (g:=λ_=>(0:κ.F)) λt _=>by rw[hn _ ⋯]; grind,Rg.Sg_zero]⟩
  obtain ⟨N,hN⟩:=Zn2 (D:=λr=>sr f*Rg.Gs a m v h' n r-h'*E r) m λr hr=>((Fs.sr f).mul (fG r)).sub (fh.mul (hE r hr).1);have two:=λr (hr:r<m)=>Rg.stp_two se sg hN hr;obtain ⟨x,b,fx,fb,ec⟩:=hs.c;have one:(1:Sr κ)=sr f*x+Rg.Sg (λr=>E r*b r) m:=by
    refine Zgm hs.m Fs.one (((Fs.sr f).mul fx).add (Fs.sg m λr hr=>(hE r hr).1.mul (fb r))) ?_;have e:Rg.Sg (λr=>T r*b r) m=Rg.Sg (λr=>E r*b r) m*sr s:=by
      rw[Rg.Sg_mulR];exact Rg.Sg_congr λr hr=>by rw[(hE r hr).2]; generalize E r=u; generalize b r=w; grind
    rw[e,ef] at ec;generalize Rg.Sg (λr=>E r*b r) m=w at *;generalize sr f=u at *;have:(1:Sr κ)*sr s=sr s:=by generalize sr s=y; grind
    rw[this]
    conv=>lhs; rw[ec]
    generalize sr s=y;grind
  have dv:h'=(h'*x+Rg.Sg (λr=>Rg.Gs a m v h' n r*b r) m)*sr f:=by
    have e:h'*Rg.Sg (λr=>E r*b r) m=Rg.Sg (λr=>Rg.Gs a m v h' n r*b r) m*sr f:=by
      rw[Rg.Sg_mul,Rg.Sg_mulR];exact Rg.Sg_congr λr hr=>by
        have:=two r hr;generalize Rg.Gs a m v h' n r=g at *;generalize E r=u at *;generalize b r=w at *;generalize sr f=y at *;have h2:h'*(u*w)=(h'*u)*w:=by grind
        rw[h2,<-this]; grind
    have:h'=h'*(sr f*x+Rg.Sg (λr=>E r*b r) m):=by rw[<-one]; grind
    conv=>lhs; rw[this]
    generalize Rg.Sg (λr=>Rg.Gs a m v h' n r*b r) m=w at *;generalize Rg.Sg (λr=>E r*b r) m=z at *;generalize sr f=y at *;grind
  have top:=mf.2;rw[lf,Wc] at top;have eh:sr ((List.range n).map h)=h':=Rg.Ps.ext λk=>by
    rw[ZbZ]
    by_cases q:k<n
    · rw[Zbb _ q,hl k q]
    · rw[Zas (by rw[Zcl]; omega),hn k ⋯]
  have z:=ZfL (m:=n) (d:=f) (R:=(List.range n).map h) lf top (by rw[Zcl]; exact Q3 _) ((fh.mul fx).add (Fs.sg m λr hr=>(fG r).mul (fb r))) (by rw[eh]; exact dv);intro k hk;rw[<-hl k hk,<-eh,z,Rg.Ps.c_zero]
end
end My
namespace L2
open PySem PySem.Spec PyProof.Rows
theorem ZiJ(K:ZZfg){X:Cx}(h:X.K=K){e1:Expr}{ta:TA}{p p2 pos pos2:Pos}(hgl:Gl X "list") (hml:X.mg "list" = none) (hg:Gl X "reversed") (hm:X.mg "reversed" = none) (hcalm:X.calm=true) (ha:PA X [e1] ta) (hs:starEach [e1] X.env=[(false,eval e1 X.env)]:=by rfl) (hs2:starEach [.Call (.Name "reversed" p) [e1] [] pos] X.env=[(false,eval (.Call (.Name "reversed" p) [e1] [] pos) X.env)]:=by rfl) :
    PE X (.Call (.Name "list" p2) [.Call (.Name "reversed" p) [e1] [] pos] [] pos2) (ZpV K ta):=by subst h; exact Zeu hgl hml hg hm hcalm ha hs hs2
end L2
namespace My
open PySem L2 PyProof.Rows
section
variable{κ:KX}
noncomputable def trT(R:ZZll κ)(m:Nat):ZZll κ:=(List.range m).map λj=>R.map λf=>f.getD j 0
theorem ZsC{a:Nat->Nat->κ.F}{v:Nat->κ.F}{m:Nat}(hm:m<=3)(ha:∀i j,QN κ ((12:Nat):Int) 108 (a i j))(hv:∀i,QN κ ((12:Nat):Int) 108 (v i))(r:Nat){t:Nat}(ht:t<=2):QN κ ((1728:Nat):Int) (2^60) ((Rg.Vz a m v r*Rg.qz m a).c t):=by
 rw[Rg.Ps.c_mul];have p12:∀k,0<12^k:=λk=>Qd ∅;have q:QN κ ((12^(t+1):Nat):Int) ((t+1)*(756^t*108*763^3)) (Rg.Sg (λi=>(Rg.Vz a m v r).c i*(Rg.qz m a).c (t-i)) (t+1)):=by
  refine Zgl (by have:=p12 (t+1);omega) (t+1) λi hi=>?_;have:=QN.mulN (Zj8 (m:=m) (show m<=7 by omega) ha hv i r) (Zm3 (m:=m) (show m<=7 by omega) ha (t-i));rw[<-Wp,show i+1+(t-i)=t+1 by omega] at this;refine QN.mono this (Qm (Qp _ (Q7 ∅ ⋯)) (Q7 ∅ hm))
 have u:=q.upN (p12 (t+1)) (p12 (2-t));rw[<-Wp,show t+1+(2-t)=3 by omega] at u;refine u.mono ?_;obtain rfl|rfl|rfl:t=0\/t=1\/t=2:=⋯
 ·decide
 ·decide
 ·decide
theorem W_q{A:ZZll κ}{m:Nat}{v:ZZlk κ}(hq:κ = .q->m<=3)(ha:AllR (Q12 κ) A)(hv:∀x∈v,Q12 κ x)(r:Nat){t:Nat}(ht:t<m):QN κ ((1728:Nat):Int) (2^60) ((Rg.Vz (ent A) m (vF v) r*Rg.qz m (ent A)).c t):=by
 cases κ with
 |r p hp=>exact trivial
 |q =>
  have:=hq rfl;exact ZsC this (λi j=>Zdw ha i j) (λi=>ZeD hv i) r ⋯
theorem Zro{A:ZZll κ}(h:AllR (Q12 κ) A):GrS κ A:=⟨12,108,∅,∅,∅,h⟩
theorem ZiK{a:Nat->Nat->κ.F}{m j:Nat}(h:j<=m):(coL (Rg.chi m a) (m+1)).getD j 0=(Rg.qz m a).c (m-j):=by
 rw[<-ZiF,Q1,Uf (by rw[ZaQ];omega),<-Q1,ZaQ,show m+1-1-j=m-j by omega];exact Zd7 _ ⋯
theorem Zo2(a:Nat->Nat->κ.F)(m:Nat):Mon (coL (Rg.chi m a) (m+1)):=⟨by rw[ZaQ];omega,by rw[ZaQ,Wc,ZiK (Q3 m),Wq,Rg.qz_c0]⟩
theorem ZiL{F:ZZlk κ}(h:Mon F):Trm F:=.inr (by rw[h.2];exact ZdP)
theorem Zqr{A:ZZll κ}{m:Nat}(hq:κ = .q->m<=3)(ha:AllR (Q12 κ) A):∀x∈coL (Rg.chi m (ent A)) (m+1),QN κ ((1728:Nat):Int) (2^60) x:=λx hx=>by
 cases κ with
 |r p hp=>exact trivial
 |q =>
  have m3:=hq rfl;obtain ⟨j,hj,rfl⟩:=ZbL hx;rw[ZaQ] at hj;rw[ZiK ⋯];have q:=Zm3 (κ:=.q) (a:=ent A) (m:=m) ⋯ (λi j=>Zdw ha i j) (m-j);have u:=q.upN (Qd ∅) (c:=12^(3-(m-j))) (Qd ∅);rw[<-Wp,show m-j+(3-(m-j))=3 by omega] at u;refine u.mono (Q0 (Qm (Q7 ∅ m3) (Q7 ∅ (show 3-(m-j)<=3 by omega))) ∅)
def TopL(A:ZZll κ)(m:Nat)(v:ZZlk κ)(Ts:ZZll κ)(i:Nat):Prop:=Ts.length=i/\∀r,r<i->sr (Ts.getD r [])=Rg.tpS (ent A) m (vF v) r/\Trm (Ts.getD r [])/\(Ts.getD r []).length<=m/\∀x∈Ts.getD r [],QN κ ((1728:Nat):Int) (2^60) x
noncomputable def Zhd(A:ZZll κ)(m:Nat)(v:ZZlk κ)(r:Nat):ZZlk κ:=(List.range m).map λt=>(Rg.Vz (ent A) m (vF v) r*Rg.qz m (ent A)).c t
theorem Zo3(A:ZZll κ)(m:Nat)(v:ZZlk κ){r:Nat}(hr:r<m):((List.range m).map (wL A m v)).map (λf=>f.getD r 0)=Zhd A m v r:=by
 rw[List.map_map];unfold Zhd;refine List.map_congr_left λt _=>?_;exact Zbb _ hr
theorem Zng{A:ZZll κ}{m:Nat}{v:ZZlk κ}{r:Nat}(j:Nat):(Zhd A m v r).reverse.getD j 0=(Rg.tpS (ent A) m (vF v) r).c j:=by
 show _=if j<m then _ else _
 by_cases h:j<m
 ·rw[if_pos h,Q1,Uf (by rw[Zhd,Zcl];exact h),<-Q1,show (Zhd A m v r).length=m from Zcl _ _];exact Zbb _ ⋯
 ·rw[if_neg h];exact Zas (by rw[Wr,Zhd,Zcl];omega)
theorem TopL.snoc{A:ZZll κ}{m:Nat}{v:ZZlk κ}{Ts:ZZll κ}{i k:Nat}(h:TopL A m v Ts i)(hq:κ = .q->m<=3)(ha:AllR (Q12 κ) A)(hv:∀x∈v,Q12 κ x)(lk:k<=(Zhd A m v i).reverse.length)(z:∀j,k<=j->(Zhd A m v i).reverse.getD j 0=0)(nz:k=0\/(Zhd A m v i).reverse.getD (k-1) 0≠0):TopL A m v (Ts++[(Zhd A m v i).reverse.take k]) (i+1):=by
 obtain ⟨l,h⟩:=h;refine ⟨by rw[Qg,l];rfl,λr hr=>?_⟩
 by_cases q:r<i
 ·rw[show (Ts++[(Zhd A m v i).reverse.take k]).getD r []=Ts.getD r [] by rw[Q1,Wh ⋯,<-Q1]];exact h r q
 ·obtain rfl:r=i:=⋯;rw[show (Ts++[(Zhd A m v r).reverse.take k]).getD r []=(Zhd A m v r).reverse.take k by rw[Q1,Wo ⋯,l,Wq];rfl];have lr:(Zhd A m v r).reverse.length=m:=by rw[Wr,Zhd,Zcl]
  refine ⟨Rg.Ps.ext λj=>?_,Zg2 lk nz,by rw[Qa,lr];omega,λx hx=>?_⟩
  ·rw[ZbZ,<-Zng]
   by_cases c:j<k
   ·rw[Q1,We,if_pos c,<-Q1]
   ·rw[z j ⋯];exact Zas (by rw[Qa];omega)
  ·have:=List.mem_reverse.mp (U4 hx);exact ZlF (λt ht=>W_q hq ha hv r ht) x this
structure Lpo (A:ZZll κ) (m:Nat) (v:ZZlk κ) (f:ZZlk κ) (n:Nat):Prop where
 l:f.length=n+1
 nm:n<=m
 mo:f.getD n 0=1
 z:∀i,i<m->Rg.Sg (λk=>f.getD k 0*Rg.im (ent A) m (vF v) k i) (n+1)=0
 i:∀h:Nat->κ.F,(∀i,i<m->Rg.Sg (λk=>h k*Rg.im (ent A) m (vF v) k i) n=0)->∀k,k<n->h k=0
 s:∃D M:Nat,0<D/\D<2^2100/\M<2^2100/\∀x∈f,QN κ (D:Int) M x
theorem Zo4{f G:ZZlk κ}{n l:Nat}(lf:f.length=n+1)(lG:G.length=l+1):(sr f*sr G).c (n+l)=f.getD n 0*G.getD l 0:=by
 rw[Rg.Ps.c_mul,show n+l+1=n+1+l by omega,Zd9 (h:=λi=>(sr f).c i*(sr G).c (n+l-i)) (n:=n+1) l λi hi=>by
  show (sr f).c i*_=0;rw[ZbZ,Zas ⋯];grind]
 have e2:Rg.Sg (λi=>(sr f).c i*(sr G).c (n+l-i)) (n+1)=Rg.Sg (λ_=>0) n+(sr f).c n*(sr G).c (n+l-n):=by
  show Rg.Sg _ n+_=_
  congr 1
  refine Rg.Sg_congr λi hi=>?_;rw[ZbZ G,Zas ⋯];grind
 rw[e2,Rg.Sg_zero,ZbZ,ZbZ,show n+l-n=l by omega];grind
theorem Zo5{F G qs R:ZZlk κ}{e:Sr κ}(mG:Mon G)(fe:Fs e)(he:sr F=e*sr G)(h:Dv F G (F.length+1-G.length) qs R):sr F=sr qs.reverse*sr G:=by
 obtain ⟨d,hd⟩:∃d,G.length=d+1:=⟨G.length-1,by have:=mG.1;omega⟩;have top:=mG.2;rw[hd,Wc] at top;have e1:sr F=sr qs.reverse*sr G+sr (R.take d):=Rg.Ps.ext λk=>by
  rw[Rg.Ps.c_add,ZhU,ZbZ,ZbZ];exact ZnR hd rfl h k
 have z:=ZfL (m:=d) (d:=G) (R:=R.take d) (e:=e-sr qs.reverse) hd top (by rw[Qa];omega) (fe.sub (Fs.sr _)) (by
  rw[he] at e1;generalize sr G=g at *;generalize sr qs.reverse=q at *;generalize sr (R.take d)=r at *;grind)
 rw[e1,z];generalize sr qs.reverse*sr G=q;grind
theorem Zrp(a:Nat->Nat->κ.F)(m:Nat)(v:Nat->κ.F)(r:Nat):∀k,m<=k->(Rg.tpS a m v r).c k=0:=λk hk=>if_neg ⋯
theorem Zo6(a:Nat->Nat->κ.F)(m:Nat)(v:Nat->κ.F):Rg.Stp a m v (Rg.tpS a m v) (sr (coL (Rg.chi m a) (m+1))) :=
 Rg.tp_stp (λj hj=>by rw[ZbZ];exact ZiK hj) λj hj=>by rw[ZbZ];exact Zas (by rw[ZaQ];omega)
theorem Zo7{F G:ZZlk κ}(lF:F.length<=8)(lq:κ = .q->F.length<=4)(mG:Mon G)(qF:∀x∈F,QN κ ((1728:Nat):Int) (2^60) x)(lG:G.length<=8)(h:ShZ κ G):∃D E M N:Nat,DvIn F G D E M N/\∀a:Nat,0<a->a<=N->0<D*(a*E)^(F.length+1-G.length)/\D*(a*E)^(F.length+1-G.length)<2^2100/\M*(2*(E*N))^(F.length+1-G.length)<2^2100:=by
 have g1:=mG.1
 cases κ with
 |r p hp =>
  have c:(2*(1*1))^(F.length+1-G.length)<=2^9:=Q7 ∅ ⋯;have o:(1*1)^(F.length+1-G.length)=1:=Ug _;have b1:1*(1*1)^(F.length+1-G.length)<2^2100:=by rw[o];decide +kernel
  have b2:1*(2*(1*1))^(F.length+1-G.length)<2^2100:=Q5 (Qk 1 c) ‹4›;have up:2^2100<2^3000:=Nat.pow_lt_pow_right ∅ ∅;refine ⟨1,1,1,1,⟨⋯,⋯,ZiL mG,λ_ _=>trivial,λ_ _=>trivial,∅,∅,∅,∅,∅,Ua b1 up,Ua b2 up,‹4›,‹4›⟩,λa a0 a1=>?_⟩;obtain rfl:a=1:=⋯;exact ⟨by rw[o];decide,b1,b2⟩
 |q =>
  obtain ⟨E,N,e0,eN,nl,-,qG⟩:=h;have l4:=lq rfl;have t4:F.length+1-G.length<=4:=⋯;have el:E<=2^245:=Q0 eN nl;have k1:∀a:Nat,0<a->a<=N->1728*(a*E)^(F.length+1-G.length)<2^2100:=λa a0 aN=>by
   have c1:(a*E)^(F.length+1-G.length)<=(2^245*2^245)^4:=Q0 (Q7 (Q9 a0 e0) t4) (U8 (Qm (Q0 aN nl) el) 4);exact Q5 (Qk 1728 c1) ‹4›
  have k2:2^60*(2*(E*N))^(F.length+1-G.length)<2^2100:=by
   have c1:(2*(E*N))^(F.length+1-G.length)<=(2*(2^245*2^245))^4:=Q0 (Q7 (Q9 ∅ (Q9 e0 ⋯)) t4) (U8 (Qk 2 (Qm el nl)) 4);exact Q5 (Qk (2^60) c1) ‹4›
  have up:2^2100<2^3000:=Nat.pow_lt_pow_right ∅ ∅;have up2:2^245<2^3000:=Nat.pow_lt_pow_right ∅ ∅;exact ⟨1728,E,2^60,N,⟨⋯,⋯,ZiL mG,qF,qG,∅,e0,∅,⋯,eN,Ua (k1 N ⋯ (Q3 _)) up,Ua k2 up,Q5 el up2,Q5 nl up2⟩,λa a0 aN=>⟨Q9 ∅ (Qd (Q9 a0 e0)),k1 a a0 aN,k2⟩⟩
end
inductive ZcR (vs:List V) (H:Hp) (Q:VK) (zE:XK):Prop
 |mk (κ:KX) (a:Addr) (rs:ZZla) (R:ZZll κ) (m:Nat) (_:vs=[.ref a]) (_:H a=some (.lst (rs.map V.ref))) (_:RowsX κ H rs R) (_:Wid m R) (_:1<=R.length) (_:R.length<=100) (_:m<=100) (_:∀(H':Hp) (D:Addr) (ds:ZZla),Same H H'->H' D=some (.lst (ds.map V.ref))->RowsX κ H' ds (trT R m)->Q (.ref D) H'):ZcR vs H Q zE
inductive ZiM (CF CR:Addr) (vs:List V) (H:Hp) (Q:VK) (zE:XK):Prop
 |mk (κ:KX) (s fa ta ca:Addr) (fs:List V) (rs:ZZla) (A:ZZll κ) (xs:List V) (v:ZZlk κ) (m:Nat) (_:vs=[.ref s,.ref fa,.ref ta,.ref ca]) (_:KdX CF CR κ H s) (_:ColL κ H fa fs (coL (Rg.chi m (ent A)) (m+1))) (_:TabL κ H ta rs A m) (_:A.length=m) (_:m<=7) (_:(κ = .q->m<=3)) (_:AllR (Q12 κ) A) (_:ColL κ H ca xs v) (_:v.length=m) (_:(∀x∈v,Q12 κ x)) (_:∀(H':Hp) (D:Addr) (ds:ZZla) (Ts:ZZll κ),Same H H'->H' D=some (.lst (ds.map V.ref))->RowsX κ H' ds Ts->TopL A m v Ts m->Q (.ref D) H'):ZiM CF CR vs H Q zE
inductive ZeG (CF CR:Addr) (vs:List V) (H:Hp) (Q:VK) (zE:XK):Prop
 |mk (κ:KX) (s ta fa ca:Addr) (fs:List V) (rs:ZZla) (A:ZZll κ) (xs:List V) (v:ZZlk κ) (m:Nat) (_:vs=[.ref s,.ref ta,.ref fa,.ref ca]) (_:KdX CF CR κ H s) (_:ColL κ H fa fs (coL (Rg.chi m (ent A)) (m+1))) (_:TabL κ H ta rs A m) (_:A.length=m) (_:m<=7) (_:(κ = .q->m<=3)) (_:AllR (Q12 κ) A) (_:ColL κ H ca xs v) (_:v.length=m) (_:(∀x∈v,Q12 κ x)) (_:∀(H':Hp) (D:Addr) (ys:List V) (f:ZZlk κ) (n:Nat),Same H H'->H D=none->H' D=some (.lst ys)->AllG (NR κ H') ys f->Lpo A m v f n->Q (.ref D) H'):ZeG CF CR vs H Q zE
inductive ZjA (CF CR cF:Addr) (vs:List V) (H:Hp) (Q:VK) (E:XK):Prop
 |mk (κ:KX) (s ta ca:Addr) (rs:ZZla) (A:ZZll κ) (xs:List V) (v:ZZlk κ) (m:Nat) (_:vs=[.ref s,.ref ta,.ref ca]) (_:KdX CF CR κ H s) (_:TabL κ H ta rs A m) (_:ColL κ H ca xs v) (_:(A.length≠m\/v.length≠A.length->E (.ref cF) none H)) (_:(A.length=m->v.length=m->m<=7/\(κ = .q->m<=3)/\AllR (Q12 κ) A/\(∀x∈v,Q12 κ x)/\∀(H':Hp) (D:Addr) (ys:List V) (f:ZZlk κ) (n:Nat),Same H H'->H D=none->H' D=some (.lst ys)->AllG (NR κ H') ys f->Lpo A m v f n->Q (.ref D) H')):ZjA CF CR cF vs H Q E
section
variable{P:Program}{w:World}{K:ZZfg}{mg:ZZmg}{base:Heap}{CF CR cF:Addr}
theorem Znh:FnScope ["kind","table","column"] ["kind","table","column"] (Zah Zic):=‹2›
theorem ZlY(h:Here K mg "image" Zic) (T:Nm mg) (c_NoFit:ExcC K mg "NoFit" cF) (h_sums_with:Has P w K mg base "sums_with" 4 ["kind","table","column"] (Zd6 CF CR)):HasX P w K mg base "image" 5 ["kind","table","column"] (ZfJ CF CR):=by
 refine h.hasX (λ_ _ F=>F.b3 λ_ _ _ _ _ _ _ _ _=>rfl) λf fd F=>F.okx Znh (λvs H Q E h=>?_) (λcdv A outer s H vs Q E hr h=>?_)
 ·obtain ⟨_,_,_,_,_,_,_,_,_,_,_,_,rfl,_⟩:=h
  rfl
 obtain ⟨κ,sk,a,c,rs,R,xs,f,D,E',M,N,rfl,hk,ta,cl,qR,qf,d0,dl,e0,el,ml,nl,k⟩:=h;refine ⟨_,(Zac (ZaB (Zar Zgo (Zaj Zai (by rfl) T.len boot_len (Zaa (pv 2) Zab)) (Zaj Zai (by rfl) T.len boot_len (Zaa (Zao Zap (pv 1) Zad (λ_ _=>rfl)) Zab)) (Zav _)) (Zae (Zca c_NoFit ZeP rfl (by rfl) (Zaa ZeK Zab))) Zat)
  (Zae (Zal (Zam h_sums_with hr (by rfl) (Zaa (pv 0) (Zaa (pv 1) (Zaa (pv 2) Zab))))))),?_⟩
 obtain ⟨a0,x0,f0,g0,r0,hx0,al0,l0⟩:=ta.fst;have lx:=cl.al.1;refine ⟨_,rfl,c,_,rfl,.inl (SqL.of cl.l),_,rfl,a,_,0,_,rfl,rfl,SqL.of ta.l,ZaR (i:=0) g0,a0,_,rfl,.inl (SqL.of hx0),rfl,_,rfl,?_⟩;refine ZeN (λz=>absurd (show (xs.length:Int)=(x0.length:Int) by omega) z) λ_=>?_;refine ⟨_,rfl,_,rfl,_,rfl,κ,sk,a,c,rs,R,xs,f,D,E',M,N,rfl,hk,ta.l,ta.r,ta.w,ta.n9,ta.m9,cl.l,cl.al,qR,qf,d0,dl,e0,el,ml,nl,k⟩
theorem Zf4:FnScope ["A","column"] ["A","column"] (Zah ZcI):=‹2›
theorem Zf5(h:Here K mg "need_column" ZcI) (T:Nm mg) (c_NoFit:ExcC K mg "NoFit" cF):HasX P w K mg base "need_column" 1 ["A","column"] (Zcm cF):=by
 refine h.hasX (λ_ _ F=>F.b2 λ_ _ _ _ _ _ _ _=>rfl) λf fd F=>F.okx Zf4 (λvs H Q E h=>?_) (λcdv A outer s H vs Q E hr h=>?_)
 ·obtain ⟨_,_,_,_,rfl,_⟩:=h
  rfl
 obtain ⟨a,c,as,xs,rfl,ha,hc,k1,k2⟩:=h;refine ⟨_,(Zae (ZaB (Zar Zgo (Zaj Zai (by rfl) T.len boot_len (Zaa (pv 1) Zab)) (Zaj Zai (by rfl) T.len boot_len (Zaa (pv 0) Zab)) (Zav _)) (Zae (Zca c_NoFit ZeP rfl (by rfl) (Zaa ZeK Zab))) Zat)),?_⟩;refine ⟨_,rfl,c,_,rfl,.inl (SqL.of hc),_,rfl,a,_,rfl,.inl (SqL.of ha),rfl,_,rfl,?_⟩;exact ZeN (λz=>⟨(by show 1<=1000;decide),k2 λe=>z (by rw[e])⟩) λz=>k1 ⋯
theorem sc_climbed:FnScope ["kind","f","A","column","current","columns","number"] ["kind","f","A","column"] (Zah Zfk):=‹2›
theorem Zkb(h:Here K mg "climbed" Zfk) (Tv:mg "reversed"=none) (mn:ZcL P w K mg base CF CR) (h_plus_row:Has P w K mg base "plus_row" 5 ["kind","row","other"] (Zc9 CF CR)) (h_image:HasX P w K mg base "image" 5 ["kind","table","column"] (ZfJ CF CR)) (h_scaled_row:Has P w K mg base "scaled_row" 5 ["kind","number","row"] (ZbK CF CR)):HasX P w K mg base "climbed" 6 ["kind","f","A","column"] (ZeE CF CR):=by
 refine h.hasX (λ_ _ F=>F.b4 λ_ _ _ _ _ _ _ _ _ _=>rfl) λf fd F=>F.okx sc_climbed (λvs H Q E h=>?_) (λcdv A outer s H vs Q E hr h=>?_)
 ·obtain ⟨_,_,_,_,_,_,_,_,_,_,_,rfl,_⟩:=h
  rfl
 obtain ⟨κ,sk,fa,ta,ca,fs,rs,A,xs,v,m,rfl,hk,cf,tb,lA,m7,qA,cv,lv,qv,k⟩:=h;have nd:=sc_climbed.nd;refine ⟨_,(Zac (Zbz (i:=4) ["each"] [(0,"kind")] nd rfl rfl rfl (ZaD (pv 3)) (by exact λ_ _ _ _=>(Zaq (i:=0) (show (["each","kind"]:List Str).Nodup by decide +kernel) rfl (Or.inl rfl))) (by exact λ_ _ _ _=>(ZhE ⟨rfl,rfl,rfl,rfl,rfl⟩ (pv 1) Zcr hr (Zaa Zad Zab))) ⟨⟨rfl,rfl,Or.inl rfl⟩,trivial⟩)
  (Zac (Zak (i:=5) nd rfl (Or.inl rfl) (ZaN Zab))
  (Zac (Za2 PassesOwn.leaving rfl (ZpL (by rfl) Tv (Zaa (pv 1) Zab)) (Zaq (i:=6) nd rfl (Or.inl rfl)) (Zac (Zak (i:=4) nd rfl (Or.inl rfl) (Zam h_plus_row hr (by rfl) (Zaa (pv 0) (Zaa (ZbA h_image Zff hr (by rfl) (Zaa (pv 0) (Zaa (pv 2) (Zaa (pv 4) Zab)))) (Zaa (Zam h_scaled_row hr (by rfl) (Zaa (pv 0) (Zaa (pv 6) (Zaa (pv 3) Zab)))) Zab)))))
   (Zae (ZaT (ZeU PySem.F.plainAttrs_list PySem.F.slot_list_append PySem.F.type_list_append Za6 (pv 5) (Zaa (pv 4) Zab))))))
  (Zae (Zal (pv 5)))))),?_⟩
 have lx:=cv.al.1;have lf:=cf.al.1;rw[ZaQ] at lf;have aR:=Zg4 cf.al;rw[ZoW] at aR;refine ⟨_,rfl,ca,rfl,⟨_,SqL.of cv.l⟩,?_⟩;refine ZaG (K:=K) (a:=ca) (xs:=xs) (λi ys H2=>Same H H2/\AllG (NR κ H2) ys (List.replicate i 0)) ⋯ ⟨Same.refl H,.nil⟩ (λi ys H2 _ q=>SqL.of (q.1 _ _ cv.l)) ?_ ?_
 ·rintro i x ys H2 hx hl ⟨S4,e4⟩;obtain ⟨Cn,dxn,fsn,psn,dvn,spn,k1,k2,k3,k4,rfl,k5⟩:=mn κ H2 sk (hk.same S4);refine ⟨_,rfl,sk,Cn,dxn,fsn,psn,_,spn,rfl,k1,k2,k3.mono ∅,k4,k5 H2 0 0 _ _ (Same.refl _) ZfW λv0 H3 S3 n0=>⟨S4.trans S3,?_⟩⟩;rw[List.replicate_succ'];exact (e4.mono λ_ _ n=>n.same S3).append (.one n0)
 rintro ys H1 hl ⟨S1,e1⟩ c0 nc0;have Sc:=Zag nc0 (.lst ys);have qc:=Zaf (H:=H1) (a:=c0) (o:=.lst ys);generalize upd H1 c0 (.lst ys)=H2 at *;have S02:=S1.trans Sc;have cl0:ColL κ H2 c0 ys (Zpi A m v 0):=⟨qc,by rw[lx,lv] at e1;exact e1.mono λ_ _ n=>n.same Sc⟩;refine ⟨(by show 0<=sizeLine;decide),λp np=>?_⟩;have Sp:=Zag np (.lst []);have qp:=Zaf (H:=H2) (a:=p) (o:=.lst []);generalize upd H2 p (.lst [])=H3 at *;have S03:=S02.trans Sp;have np0:H p=none:=S02.free np;refine ⟨_,rfl,fa,fs,rfl,SqL.of (S03 _ _ cf.l),?_⟩;refine ZoP (xs:=fs) (λi σ H4=>∃(z6:Option V) (cc:Addr) (zs:List V) (cs:ZZla),σ=[some (.ref sk),some (.ref fa),some (.ref ta),some (.ref ca),some (.ref cc),some (.ref p),z6]/\Same H H4/\ColL κ H4 cc zs (Zpi A m v i)/\H4 p=some (.lst (cs.map V.ref))/\p∉cs/\RowsX κ H4 cs ((List.range i).map (wL A m v))) ⟨_,c0,ys,[],rfl,S03,cl0.same Sp,qp,(λz=>nomatch z),.nil⟩ ?_ ?_ ?_
 ·rintro i σ H4-⟨z6,cc,zs,cs,rfl,S4,-⟩;exact SqL.of (S4 _ _ cf.l)
 ·rintro i y σ H4 hy ⟨z6,cc,zs,cs,rfl,S4,cl,hp,npc,rx⟩;obtain ⟨q,hq,nq⟩:=aR.get hy;have hi:i<m+1:=by
   have:=(Qo.mp hq).1;rw[ZaQ] at this;exact this
  have eq:q=(Rg.qz m (ent A)).c i:=by
   have:=Zd7 (Rg.qz m (ent A)) hi;rw[Q1,hq] at this;exact this
  subst eq;have lc:=Zm4 A m v i;have qcu:=Zqh m7 qA qv i ⋯;obtain ⟨b1,b2,b3⟩:=Zqj m7 qA qv (i:=i) ⋯;refine ⟨_,rfl,_,rfl,_,rfl,_,rfl,κ,sk,ta,cc,rs,A,zs,Zpi A m v i,12,12^8,108,10^54,rfl,hk.same S4,(by rw[lc];exact tb.same S4),cl,qA,qcu,∅,∅,∅,∅,∅,∅,λH5 D5 y5 S5 n5 h5 a5=>?_⟩;have S05:=S4.trans S5;refine ⟨_,rfl,_,rfl,_,rfl,κ,sk,ca,y,_,xs,v,rfl,hk.same S05,(nq.same S05),(cv.same S05).l,(cv.same S05).al,b1,b2,⋯,λH6 D6 y6 S6 n6 h6 a6=>?_⟩;have S06:=S05.trans S6;refine ⟨κ,sk,D5,D6,y5,y6,_,_,rfl,hk.same S06,S6 _ _ h5,h6,a5.mono λ_ _ n=>n.same S6,a6,Zqi m7 tb.w qA lc ∅ ∅ ∅ qcu,b3,by rw[Q2];omega,λH7 D7 y7 S7 n7 h7 a7=>?_⟩;rw[Zm5 lA tb.w lv i] at a7;have S47:=S5.trans (S6.trans S7);have hp7:=S47 _ _ hp;have lcs:=rx.1;rw[Q2,Qs] at lcs;refine ⟨_,rfl,.inl ⟨rfl,_,SqL.of hp7⟩,_,rfl,p,_,_,rfl,rfl,hp7,Q8 (show (cs.map V.ref).length<1000 by rw[Q2];omega) ∅,?_⟩;have O:Off [p] H7 (upd H7 p (.lst (cs.map V.ref++[V.ref D7]))):=ZaZ (Same.refl H7);have nD7:D7≠p:=λz=>by
   rw[z,((S5.trans S6)) _ _ hp] at n7;cases n7
  have O8:=O D7 _ (λz=>nD7 (Q6.mp z)) h7;have a8:=a7.mono λ_ _ n=>n.off hp7 O;refine ⟨_,D7,y7,cs++[D7],rfl,Off.same O (S4.trans S47) (λz hz=>by rw[Q6.mp hz];exact np0),⟨O8,a8⟩,by rw[Zaf,Qn];rfl,?_,?_⟩
  ·intro z;rcases Qx.mp z with z|z
   ·exact npc z
   ·exact nD7 (Q6.mp z).symm
  ·rw[Uo,Qn];exact ((rx.same S47).off npc hp7 O).snoc O8 a8
 ·rintro σ H4 ⟨z6,cc,zs,cs,rfl,S4,cl,hp,npc,rx⟩;rw[lf] at rx;exact ⟨_,rfl,k H4 p cs S4 hp rx⟩
end
section
variable{P:Program}{w:World}{K:ZZfg}{mg:ZZmg}{base:Heap}{CP CF CR cN cF:Addr}
theorem ZlZ:FnScope ["table"] ["table"] (Zah Zgu):=‹2›
theorem ZiN(h:Here K mg "turned" Zgu) (T:Nm mg) (h_column_at:Has P w K mg base "column_at" 1 ["table","place"] ZcQ):Has P w K mg base "turned" 2 ["table"] ZcR:=by
 refine h.has (λ_ _ F=>F.b1 λ_ _ _ _ _ _ _=>rfl) λf fd F=>F.ok ZlZ (λvs H Q E h=>?_) (λcdv A outer s H vs Q E hr h=>?_)
 ·obtain ⟨_,_,_,_,_,rfl,_⟩:=h
  rfl
 obtain ⟨κ,a,rs,R,m,rfl,hA,rx,wd,n1,n9,m9,k⟩:=h;refine ⟨_,(Zae (Zal (ZaU ["place"] [(0,"table")] rfl (ZaE (by rfl) T.range (Zaa (Zaj Zai (by rfl) T.len boot_len (Zaa (Zao Zap (pv 0) Zad (λ_ _=>rfl)) Zab)) Zab)) (by exact λ_ _ _ _=>(Zaq (i:=0) (show (["place","table"]:List Str).Nodup by decide +kernel) rfl (Or.inl rfl))) (by exact λ_ _ _ _=>(Zam h_column_at hr (by rfl) (Zaa (pv 1) (Zaa (pv 0) Zab)))) ⟨⟨rfl,rfl,Or.inl rfl⟩,trivial⟩))),?_⟩;have lr:=rx.1;obtain ⟨a0,x0,g0,hx0,al0⟩:=rx.get (i:=0) ⋯;have lx0:x0.length=m:=by rw[al0.1];exact wd _ (Ql _)
 refine ⟨_,rfl,a,_,0,_,rfl,rfl,SqL.of hA,ZaR (i:=0) g0,a0,_,rfl,.inl (SqL.of hx0),(m:Int),(by rw[lx0]),⋯,⋯,?_⟩;rw[Qu];refine Zbc (lo:=0) (n:=m) (λq ys H2=>∃ds:ZZla,ys=ds.map V.ref/\Same H H2/\RowsX κ H2 ds (trT R q)) ⋯ ⟨[],rfl,Same.refl _,.nil⟩ ?_ ?_
 ·rintro q ys H2 hq _ ⟨ds,rfl,S2,rD⟩;refine ⟨_,rfl,_,rfl,κ,a,rs,R,m,q,(by rw[Qw];rfl),S2 _ _ hA,rx.same S2,wd,n9,hq,λH3 D ys S3 nD hD e=>?_⟩;refine ⟨ds++[D],by rw[Qn];rfl,S2.trans S3,?_⟩;rw[show trT R (q+1)=trT R q++[R.map λf=>f.getD q 0] by unfold trT;rw[Uo,Qn];rfl];exact (rD.same S3).snoc hD e
 ·rintro ys H2 _ ⟨ds,rfl,S2,rD⟩ D nD;have SD:=Zag nD (.lst (ds.map V.ref));exact k _ D ds (S2.trans SD) Zaf (rD.same SD)
theorem sc_tops_over:FnScope ["kind","f","A","column","rows"] ["kind","f","A","column"] (Zah ZdE):=‹2›
theorem ZhX(h:Here K mg "tops_over" ZdE) (T:Nm mg) (Tv:mg "reversed"=none) (h_turned:Has P w K mg base "turned" 6 ["table"] ZcR) (h_climbed:HasX P w K mg base "climbed" 6 ["kind","f","A","column"] (ZeE CF CR)) (h_trimmed:Has P w K mg base "trimmed" 6 ["kind","numbers"] (Zb0 CF CR)):HasX P w K mg base "tops_over" 7 ["kind","f","A","column"] (ZiM CF CR):=by
 refine h.hasX (λ_ _ F=>F.b4 λ_ _ _ _ _ _ _ _ _ _=>rfl) λf fd F=>F.okx sc_tops_over (λvs H Q E h=>?_) (λcdv A outer s H vs Q E hr h=>?_)
 ·obtain ⟨_,_,_,_,_,_,_,_,_,_,_,rfl,_⟩:=h
  rfl
 obtain ⟨κ,sk,fa,ta,ca,fs,rs,A,xs,v,m,rfl,hk,cf,tb,lA,m7,m3,qA,cv,lv,qv,k⟩:=h;have nd:=sc_tops_over.nd;refine ⟨_,(Zac (Zak (i:=4) nd rfl (Or.inl rfl) (Zam h_turned hr (by rfl) (Zaa (ZaS Zbg (ZbA h_climbed Zff hr (by rfl) (Zaa (pv 0) (Zaa (pv 1) (Zaa (pv 2) (Zaa (pv 3) Zab))))) Zbr (Za5 (Zds ZbT Zad))) Zab)))
  (Zae (Zal (ZaU ["numbers"] [(0,"kind")] rfl (ZaD (pv 4)) (by exact λ_ _ _ _=>(Zaq (i:=0) (show (["numbers","kind"]:List Str).Nodup by decide +kernel) rfl (Or.inl rfl))) (by exact λ_ _ _ _=>(Zam h_trimmed hr (by rfl) (Zaa (pv 1) (Zaa (ZiJ K rfl (by rfl) T.list (by rfl) Tv rfl (Zaa (pv 0) Zab)) Zab)))) ⟨⟨rfl,rfl,Or.inl rfl⟩,trivial⟩)))),?_⟩
 have m1:1<=m:=by have:=tb.n1;omega
 refine ⟨_,rfl,_,rfl,_,rfl,_,rfl,κ,sk,fa,ta,ca,fs,rs,A,xs,v,m,rfl,hk,cf,tb,lA,m7,qA,cv,lv,qv,λH1 D1 cs S1 h1 r1=>?_⟩;have lc:=r1.1;rw[Q2,Qs] at lc;refine ⟨_,rfl,_,rfl,D1,_,rfl,SqL.of h1,λp np=>?_⟩;have ec:ZeL (cs.map V.ref) none (some (-1))=(cs.take m).map V.ref:=by
  rw[ZlG,Q2,lc,Wc,List.map_take]
 have et:((List.range (m+1)).map (wL A m v)).take m=(List.range m).map (wL A m v):=by
  rw[<-List.map_take,List.take_range,show min m (m+1)=m by omega]
 show ZcR [.ref p] (upd H1 p (.lst (ZeL (cs.map V.ref) none (some (-1))))) _ _;rw[ec];have Sp:=Zag np (.lst ((cs.take m).map V.ref));have qp:=Zaf (H:=H1) (a:=p) (o:=.lst ((cs.take m).map V.ref));have r2:=(r1.same Sp).take m;rw[et] at r2;generalize upd H1 p (.lst ((cs.take m).map V.ref))=H2 at *;have S02:=S1.trans Sp;refine ⟨κ,p,cs.take m,(List.range m).map (wL A m v),m,rfl,qp,r2,(λf hf=>by obtain ⟨t,_,rfl⟩:=W4.mp hf;exact Zgj _ _ _ _),by rw[Q2,Qs];exact m1,by rw[Q2,Qs];omega,⋯,λH3 D3 ds S3 h3 r3=>?_⟩;have S03:=S02.trans S3;have ld:=r3.1;rw[show (trT ((List.range m).map (wL A m v)) m).length=m by unfold trT;rw[Q2,Qs]] at ld;refine ⟨_,rfl,D3,rfl,⟨_,SqL.of h3⟩,?_⟩;refine ZaG (K:=K) (a:=D3) (xs:=ds.map V.ref) (λi ys H4=>∃(es:ZZla) (Ts:ZZll κ),ys=es.map V.ref/\Same H3 H4/\RowsX κ H4 es Ts/\TopL A m v Ts i) (by rw[Q2];omega) ⟨[],[],rfl,Same.refl _,.nil,rfl,λr hr=>⋯⟩ (λi ys H4 _ q=>by obtain ⟨_,_,_,q,_⟩:=q;exact SqL.of (q _ _ h3)) ?_ ?_
 ·rintro i x ys H4 hx hl ⟨es,Ts,rfl,S4,rE,tl⟩;obtain ⟨b,hb,rfl⟩:=ZaA hx;have hi:i<m:=by have:=(Qo.mp hb).1;omega
  obtain ⟨ws,hw,aw⟩:=r3.2 i b (Zhd A m v i) hb (by unfold trT;rw[Qb,Wf hi];exact congrArg some (Zo3 A m v hi));refine ⟨_,rfl,_,rfl,b,ws,rfl,SqL.of (S4 _ _ hw),λlq nlq=>?_⟩;have Sl:=Zag nlq (.lst ws.reverse);have ql:=Zaf (H:=H4) (a:=lq) (o:=.lst ws.reverse);generalize upd H4 lq (.lst ws.reverse)=H5 at *;have S35:=S4.trans Sl;have aR:=Zg4 (aw.mono λ_ _ n=>n.same S35);refine ⟨κ,sk,lq,ws.reverse,(Zhd A m v i).reverse,rfl,hk.same (S03.trans S35),ql,aR,λH6 Dd r S6 nD hD lr r0 r1=>?_⟩;exact ⟨es++[Dd],Ts++[(Zhd A m v i).reverse.take r],by rw[Qn];rfl,S35.trans S6,(rE.same (Sl.trans S6)).snoc hD (Zbv (aR.mono λ_ _ n=>n.same S6) r),tl.snoc m3 qA qv lr r0 r1⟩
 ·rintro ys H4 hl ⟨es,Ts,rfl,S4,rE,tl⟩ D nD;rw[Q2,ld] at tl;have SD:=Zag nD (.lst (es.map V.ref));exact k _ D es Ts (S03.trans (S4.trans SD)) Zaf (rE.same SD) tl
theorem sc_least_within:FnScope ["kind","A","whole","column","shared","top"] ["kind","A","whole","column"] (Zah Zcj):=‹2›
theorem ZfP(h:Here K mg "least_within" Zcj) (T:Nm mg) (h_tops_over:HasX P w K mg base "tops_over" 11 ["kind","f","A","column"] (ZiM CF CR)) (h_common_part:Has P w K mg base "common_part" 11 ["kind","f","g"] (Zg9 CF CR)) (h_divided:HasX P w K mg base "divided" 11 ["kind","f","g"] (ZeC CF CR cN)):HasX P w K mg base "least_within" 12 ["kind","A","whole","column"] (ZeG CF CR):=by
 refine h.hasX (λ_ _ F=>F.b4 λ_ _ _ _ _ _ _ _ _ _=>rfl) λf fd F=>F.okx sc_least_within (λvs H Q E h=>?_) (λcdv A outer s H vs Q E hr h=>?_)
 ·obtain ⟨_,_,_,_,_,_,_,_,_,_,_,rfl,_⟩:=h
  rfl
 obtain ⟨κ,sk,ta,fa,ca,fs,rs,A,xs,v,m,rfl,hk,cf,tb,lA,m7,m3,qA,cv,lv,qv,k⟩:=h;have nd:=sc_least_within.nd;refine ⟨_,(Zac (Zak (i:=4) nd rfl (Or.inl rfl) (pv 2))
  (Zac (Za2 PassesOwn.leaving rfl (ZaD (ZbA h_tops_over Zff hr (by rfl) (Zaa (pv 0) (Zaa (pv 2) (Zaa (pv 1) (Zaa (pv 3) Zab)))))) (Zaq (i:=5) nd rfl (Or.inl rfl)) (Zae (ZaB (Zar ZfR (Zaj Zai (by rfl) T.len boot_len (Zaa (pv 4) Zab)) Zad (Zav _)) (Zae (Zak (i:=4) nd rfl (Or.inl rfl) (Zam h_common_part hr (by rfl) (Zaa (pv 0) (Zaa (pv 4) (Zaa (pv 5) Zab)))))) Zat)))
  (Zae (Zal (Zao Zax (ZbA h_divided Zff hr (by rfl) (Zaa (pv 0) (Zaa (pv 2) (Zaa (pv 4) Zab)))) Zad (λ_ _=>rfl)))))),?_⟩
 have mch:=Zo2 (ent A) m;have lch:=ZaQ (Rg.chi m (ent A)) (m+1);have qch:=Zqr (m:=m) m3 qA;have stp:=Zo6 (ent A) m (vF v);have tfs:=Zrp (ent A) m (vF v);generalize hC:coL (Rg.chi m (ent A)) (m+1)=Ch at *;refine ⟨_,rfl,_,rfl,_,rfl,_,rfl,_,rfl,κ,sk,fa,ta,ca,fs,rs,A,xs,v,m,rfl,hk,?cf,tb,lA,m7,m3,qA,cv,lv,qv,λH1 D1 ds Ts S1 h1 r1 tl=>?_⟩
 case cf=>rw[hC];exact cf
 refine ⟨D1,rfl,⟨_,SqL.of h1⟩,?_⟩;have ld:=r1.1;rw[tl.1] at ld;refine ZbV (K:=K) (a:=D1) (xs:=ds.map V.ref) (λi σ H2=>∃(z5:Option V) (sa:Addr) (ss:List V) (sh:ZZlk κ),σ=[some (.ref sk),some (.ref ta),some (.ref fa),some (.ref ca),some (.ref sa),z5]/\Same H1 H2/\PolL κ H2 sa ss sh/\Trm sh/\Shd (sr Ch) (Rg.tpS (ent A) m (vF v)) i sh/\ShZ κ sh/\sh.length<=m+1) ⟨_,fa,fs,Ch,rfl,Same.refl _,⟨S1 _ _ cf.l,cf.al.mono λ_ _ n=>n.same S1⟩,ZiL mch,⟨mch,⟨1,Fs.one,by generalize sr Ch=c;grind⟩,(λr hr=>⋯),Cmb.first _ _⟩,⟨1728,2^60,∅,∅,∅,λ_=>Q3 _,qch⟩,⋯⟩ ?_ ?_ ?_
 ·rintro i σ H2-⟨z5,sa,ss,sh,rfl,S2,-⟩;exact SqL.of (S2 _ _ h1)
 ·rintro i x σ H2 hx ⟨z5,sa,ss,sh,rfl,S2,ps,ts,hs,hz,ls⟩;obtain ⟨b,hb,rfl⟩:=ZaA hx;have hi:i<m:=by have:=(Qo.mp hb).1;omega
  obtain ⟨e1,e2,e3,e4⟩:=tl.2 i hi;have lss:=ps.al.1;refine ⟨_,rfl,sa,_,rfl,.inl (SqL.of ps.l),_,_,rfl,rfl,_,rfl,?_⟩;refine Za8 (λzz=>?_) (λzz=>?_)
  ·have zz:(1:Int)<(ss.length:Int):=zz;have g2:(Ts)[i]?=some (Ts.getD i []):=by
    rw[Q1,Q4 (by rw[tl.1];exact hi)];rfl
   obtain ⟨ws,hw,aw⟩:=r1.2 i b _ hb g2;refine ⟨_,rfl,_,rfl,_,rfl,κ,sk,sa,b,ss,ws,sh,Ts.getD i [],rfl,hk.same (S1.trans S2),ps,⟨S2 _ _ hw,aw.mono λ_ _ n=>n.same S2⟩,ts,e2,⋯,⋯,⋯,(λe=>by have:=m3 e;omega),hz,e4,λH3 R zs r S3 pr tr hb' mo hd zr lr=>?_⟩;obtain ⟨xa,xb,fa',fb,er⟩:=hb';obtain ⟨ya,yc,fya,fyc,ef,eg⟩:=hd;rw[e1] at er eg;refine ⟨_,R,zs,r,rfl,S2.trans S3,pr,tr,⟨mo,?_,?_,hs.c.step fa' fb er⟩,zr,⋯⟩
   ·obtain ⟨e,fe,ee⟩:=hs.d;exact ⟨e*ya,fe.mul fya,by rw[ee,ef];generalize sr r=c;grind⟩
   ·intro j hj
    by_cases q:j=i
    ·subst q;exact ⟨yc,fyc,eg⟩
    ·obtain ⟨e,fe,ee⟩:=hs.t j ⋯;exact ⟨e*ya,fe.mul fya,by rw[ee,ef];generalize sr r=c;grind⟩
  ·have zz:¬(1:Int)<(ss.length:Int):=zz;have l1:sh.length=1:=by have:=hs.m.1;omega
   refine ⟨_,sa,ss,sh,rfl,S2,ps,ts,⟨hs.m,hs.d,λj hj=>?_,hs.c.stay⟩,hz,ls⟩
   by_cases q:j=i
   ·subst q;have e:sr sh=1:=by
     have t:=hs.m.2;rw[l1] at t;have:sr sh=cn 1:=Rg.Ps.ext λk=>by
      rw[ZqD,ZbZ]
      cases k with
      |zero=>exact t
      |succ k=>rw[Zas ⋯,if_neg ⋯]
     rw[this,Zju]
    exact ⟨_,⟨m,tfs j⟩,by rw[e];generalize Rg.tpS (ent A) m (vF v) j=c;grind⟩
   ·exact hs.t j ⋯
 ·rintro σ H2 ⟨z5,sa,ss,sh,rfl,S2,ps,ts,hs,hz,ls⟩;rw[Q2,ld] at hs;have S02:=S1.trans S2;obtain ⟨D,E',M,N,di,dsz⟩:=Zo7 (F:=Ch) (G:=sh) ⋯ (λe=>by have:=m3 e;omega) hs.m qch ⋯ hz;have l1:=hs.m.1;refine ⟨_,rfl,_,rfl,_,rfl,κ,sk,fa,sa,fs,ss,Ch,sh,D,E',M,N,rfl,hk.same S02,S02 _ _ cf.l,cf.al.mono (λ_ _ n=>n.same S02),ps.l,ps.al,di,(λz=>⋯),λ_ H3 tp qa ra qv rv qs R a r S3 ht hq hr' aq ar dvo nq nr ne=>?_⟩;obtain ⟨e,fe,ee⟩:=hs.d;have ev:=Zo5 hs.m fe ee dvo.dv;have lq:=dvo.dv.lq;obtain ⟨n,hn⟩:∃n,Ch.length+1-sh.length=n+1:=⟨m+1-sh.length,⋯⟩;have lf:qs.reverse.length=n+1:=by rw[Wr,lq,hn]
  obtain ⟨l,hl⟩:∃l,sh.length=l+1:=⟨sh.length-1,⋯⟩;have t1:=Zo4 lf hl;have tsh:=hs.m.2;rw[hl,Wc] at tsh;have tch:=mch.2;rw[show Ch.length-1=n+l by omega] at tch;rw[<-ev,ZbZ,tch,tsh] at t1;have t1:qs.reverse.getD n 0=1:=by
   generalize qs.reverse.getD n 0=y at *;grind
  have mf:Mon qs.reverse:=⟨⋯,by rw[lf,Wc];exact t1⟩;obtain ⟨zz,ii⟩:=Znf stp (λr _=>tfs r) hs ev mf lf ⋯;obtain ⟨s1,s2,s3⟩:=dsz a dvo.a0 dvo.aN;refine ⟨tp,_,0,_,rfl,rfl,SqT.of ht,rfl,k H3 qa qv qs.reverse n (S02.trans S3) (S02.free nq) hq aq ⟨lf,⋯,t1,zz,ii,_,_,s1,s2,s3,λx hx=>dvo.qq x (List.mem_reverse.mp hx)⟩⟩
theorem ZiO:FnScope ["kind","A","column"] ["kind","A","column"] (Zah Zej):=‹2›
theorem ZiP(h:Here K mg "least_of" Zej) (h_need_square:HasX P w K mg base "need_square" 12 ["table"] (Zbw cF)) (h_need_column:HasX P w K mg base "need_column" 12 ["A","column"] (Zcm cF)) (h_great:HasX P w K mg base "great" 12 ["kind","A"] (Zg5 CF CR cF)) (h_least_within:HasX P w K mg base "least_within" 12 ["kind","A","whole","column"] (ZeG CF CR)):HasX P w K mg base "least_of" 13 ["kind","A","column"] (ZjA CF CR cF):=by
 refine h.hasX (λ_ _ F=>F.b3 λ_ _ _ _ _ _ _ _ _=>rfl) λf fd F=>F.okx ZiO (λvs H Q E h=>?_) (λcdv A outer s H vs Q E hr h=>?_)
 ·obtain ⟨_,_,_,_,_,_,_,_,_,rfl,_⟩:=h
  rfl
 obtain ⟨κ,sk,ta,ca,rs,A,xs,v,m,rfl,hk,tb,cv,kF,kS⟩:=h;refine ⟨_,(Zac (ZaT (ZbA h_need_square Zff hr (by rfl) (Zaa (pv 1) Zab)))
  (Zac (ZaT (ZbA h_need_column Zff hr (by rfl) (Zaa (pv 1) (Zaa (pv 2) Zab))))
  (Zae (Zal (ZbA h_least_within Zff hr (by rfl) (Zaa (pv 0) (Zaa (pv 1) (Zaa (ZbA h_great Zff hr (by rfl) (Zaa (pv 0) (Zaa (pv 1) Zab))) (Zaa (pv 2) Zab))))))))),?_⟩
 have lr:=tb.r.1;have lx:=cv.al.1;refine ⟨_,rfl,κ,ta,rs,A,m,rfl,tb,(λsq=>?_),λns=>kF (.inl ns)⟩;refine ⟨_,rfl,_,rfl,ta,ca,_,xs,rfl,tb.l,cv.l,(λe=>?_),λne=>kF (.inr λz=>ne (by rw[lx,Q2,lr];exact z))⟩;rw[lx,Q2,lr] at e;obtain ⟨m7,m3,qA,qv,k⟩:=kS sq ⋯;refine ⟨_,rfl,_,rfl,_,rfl,_,rfl,κ,sk,ta,rs,A,m,rfl,hk,tb,(λns=>absurd sq ns),λ_=>⟨m7,?gr,λH1 D1 ys S1 n1 h1 a1=>?_⟩⟩
 case gr=>exact Zro qA
 refine ⟨_,rfl,κ,sk,ta,D1,ca,ys,rs,A,xs,v,m,rfl,hk.same S1,⟨h1,a1⟩,tb.same S1,sq,m7,m3,qA,cv.same S1,⋯,qv,λH2 D2 y2 f n S2 n2 h2 a2 lp=>k H2 D2 y2 f n (S1.trans S2) (S1.free n2) h2 a2 lp⟩
end
inductive Zcf (K:ZZfg) (vs:List V) (H:Hp) (Q:VK) (zE:XK):Prop
 |mk (a:Addr) (cs:List Int) (i:Int) (_:vs=[.ref a,.int i]) (_:SqL K H a (cs.map V.int)) (_:0<=i) (_:∀c:Int,Q (.int c) H):Zcf K vs H Q zE
inductive ZdQ (vs:List V) (H:Hp) (Q:VK) (zE:XK):Prop
 |mk (κ:KX) (c:Int) (_:vs=[.int κ.P,.int c]) (_:∀H' (n:Nat),Same H H'->1<=n->n<=7->(κ = .q->n<=3)->Q (.int (n:Int)) H'):ZdQ vs H Q zE
inductive Zdf (vs:List V) (H:Hp) (Q:VK) (zE:XK):Prop
 |mk (κ:KX) (ca:Addr) (cs:List Int) (i:Int) (n m:Nat) (_:vs=[.int κ.P,.ref ca,.int i,.int (n:Int),.int (m:Int)]) (_:H ca=some (.lst (cs.map V.int))) (_:0<=i) (_:i<=1000) (_:n<=7) (_:m<=7) (_:∀H' D rs (R:ZZll κ),Same H H'->H' D=some (.lst (rs.map V.ref))->RowsX κ H' rs R->R.length=n->Wid m R->AllR (QN κ ((12:Nat):Int) 108) R->(∀a∈rs,H a=none)->rs.Nodup->Q (.ref D) H'):Zdf vs H Q zE
inductive ZeH (vs:List V) (H:Hp) (Q:VK) (zE:XK):Prop
 |mk (κ:KX) (ta ca:Addr) (rs:ZZla) (R:ZZll κ) (xs:List V) (c:ZZlk κ) (D M:Nat) (_:vs=[.int κ.P,.ref ta,.ref ca]) (_:H ta=some (.lst (rs.map V.ref))) (_:RowsX κ H rs R) (_:Wid c.length R) (_:R.length<=7) (_:c.length<=7) (_:H ca=some (.lst xs)) (_:AllG (NR κ H) xs c) (_:AllR (QN κ ((12:Nat):Int) 108) R) (_:(∀x∈c,QN κ (D:Int) M x)) (_:0<D) (_:D<=10^50) (_:M<=10^50) (_:∀H' E ys,Same H H'->H E=none->H' E=some (.lst ys)->AllG (NR κ H') ys (Zqf R c)->Q (.ref E) H'):ZeH vs H Q zE
section
variable{P:Program}{w:World}{K:ZZfg}{mg:ZZmg}{base:Heap}
theorem sc_l_fraction:FnScope ["_law_top","_law_bottom","_law_by"] ["_law_top","_law_bottom"] (Zah Zc6):=‹2›
theorem Zl0(h:Here K mg "_law_fraction" Zc6) (h_l_divisor:Has P w K mg base "_law_divisor" 1 ["_law_one","_law_other"] ZaW):Has P w K mg base "_law_fraction" 2 ["_law_top","_law_bottom"] Zfx:=by
 refine h.has (λ_ _ F=>F.b2 λ_ _ _ _ _ _ _ _=>rfl) λf fd F=>F.ok sc_l_fraction (λvs H Q E h=>?_) (λcdv A outer s H vs Q E hr h=>?_)
 ·obtain ⟨_,_,rfl,_⟩:=h
  rfl
 obtain ⟨t,b,rfl,hb,fb,k⟩:=h;have nd:=sc_l_fraction.nd;refine ⟨_,(Zac (Zak (i:=2) nd rfl (Or.inl rfl) (Zam h_l_divisor hr (by rfl) (Zaa (pv 0) (Zaa (pv 1) Zab))))
  (Zae (Zal (ZbU (Zaa (Zan Zjc (pv 0) (pv 2)) (Zaa (Zan Zjc (pv 1) (pv 2)) Zab)))))),?_⟩
 refine ⟨_,rfl,_,rfl,t,b,rfl,?_⟩;have hg:=M3.gcd_ne (a:=t) (b:=b) ⋯;have gl:Int.gcd t b<=b.natAbs:=Ud ⋯ (Ue.mpr (Wb t b));have hg1:(Int.gcd t b:Int)≠0/\Bits 8000 (Int.gcd t b:Int):=⟨⋯,fb.le (by rw[Qj];exact gl)⟩;obtain ⟨e1,e2⟩:=Zsh (t:=t) hb;refine ⟨_,rfl,_,rfl,_,_,rfl,rfl,hg1,_,rfl,_,rfl,_,_,rfl,rfl,hg1,(by show 2<=sizeLine;decide),λr hr'=>?_⟩;have:=k r hr';rw[<-e1,<-e2] at this;exact this
theorem sc_l_prime:FnScope ["_law_number"] ["_law_number"] (Zah Zfm):=‹2›
theorem ZiQ(h:Here K mg "_law_prime" Zfm) (h_l_is_prime:Has P w K mg base "_law_is_prime" 1 ["_law_number"] ZdZ):Has P w K mg base "_law_prime" 2 ["_law_number"] ZdM:=by
 refine h.has (λ_ _ F=>F.b1 λ_ _ _ _ _ _ _=>rfl) λf fd F=>F.ok sc_l_prime (λvs H Q E h=>?_) (λcdv A outer s H vs Q E hr h=>?_)
 ·obtain ⟨_,rfl,_⟩:=h
  rfl
 obtain ⟨n,rfl,n2,n9,k⟩:=h;have nd:=sc_l_prime.nd;refine ⟨_,(Zac (Zbq PassesOwn.never (Zb6 (ZaF (Zam h_l_is_prime hr (by rfl) (Zaa (pv 0) Zab)))) (Zae (Zak (i:=0) nd rfl (Or.inl rfl) (Zan ZaM (pv 0) Zad))))
  (Zae (Zal (pv 0)))),?_⟩
 refine ⟨λmm σ H'=>∃t:Int,mm=(999983-t).toNat/\σ=[some (.int t)]/\H'=H/\2<=t/\t<=999983,⟨_,n,rfl,rfl,rfl,⋯,⋯⟩,?_⟩;rintro mm σ H' ⟨t,rfl,rfl,rfl,h2,ht⟩;refine ⟨_,rfl,t,rfl,⋯,λhp=>⟨_,rfl,?_⟩,λhp=>⟨_,rfl,?_⟩⟩
 ·refine Zdt ?_;exact ⟨_,rfl,k t (.inr ⟨hp,⋯⟩)⟩
 ·refine ZjK ?_;refine ⟨_,λ_ _ h=>h,?_⟩;have hne:t≠999983:=λz=>hp (by rw[z];exact M2.prm_big);refine ⟨_,rfl,_,_,rfl,rfl,?_⟩;exact ⟨_,⋯,t+1,rfl,rfl,rfl,⋯,⋯⟩
theorem Zha:FnScope ["_law_cell"] ["_law_cell"] (Zah Zc5):=‹2›
theorem Zhb(h:Here K mg "_law_prime_by" Zc5) (h_l_prime:Has P w K mg base "_law_prime" 2 ["_law_number"] ZdM):Has P w K mg base "_law_prime_by" 3 ["_law_cell"] ZcN:=by
 refine h.has (λ_ _ F=>F.b1 λ_ _ _ _ _ _ _=>rfl) λf fd F=>F.ok Zha (λvs H Q E h=>?_) (λcdv A outer s H vs Q E hr h=>?_)
 ·obtain ⟨_,rfl,_⟩:=h
  rfl
 obtain ⟨c,rfl,k⟩:=h;refine ⟨_,(Zac (ZaB (Zar Zby (Zan ZcU (pv 0) Zad) Zad (Zav _)) (Zae (Zal Zad)) Zat)
  (Zac (ZaB (Zar Zby (Zan ZcU (pv 0) Zad) Zad (Zav _)) (Zae (Zal (Zao Zap (ZaN (Zaa Zad (Zaa Zad (Zaa Zad (Zaa Zad (Zaa Zad (Zaa Zad Zab))))))) (Zan ZcU (Zan Zee (pv 0) Zad) Zad) (λ_ _=>rfl)))) Zat)
  (Zae (Zal (Zam h_l_prime hr (by rfl) (Zaa (Zan ZaM Zad (Zan ZcU (Zan Zpu (Zan Zee (pv 0) Zad) Zad) Zad)) Zab)))))),?_⟩
 refine ⟨_,rfl,_,_,rfl,rfl,(by show (0:Int)<_;decide),rfl,_,rfl,?_⟩;refine Zbx (λ_=>k H 0 (Same.refl H) (.inl rfl)) (λ_=>?_);refine ⟨_,rfl,_,_,rfl,rfl,(by show (0:Int)<_;decide),rfl,_,rfl,?_⟩;refine Zbx (λ_=>?_) (λ_=>?_)
 ·obtain ⟨m,am,pm⟩:=Zq8 c;refine ⟨(by show 6<=sizeLine;decide),λq hq=>?_⟩;refine ⟨_,rfl,_,_,rfl,rfl,⟨∅,∅⟩,_,_,rfl,rfl,(by show (0:Int)<_;decide),_,_,_,_,rfl,rfl,SqL.of Zaf,am,?_⟩;exact k _ m (Zag hq _) pm
 ·refine ⟨_,rfl,_,_,rfl,rfl,⟨∅,∅⟩,_,_,rfl,rfl,.inr ⟨∅,∅⟩,_,_,rfl,rfl,(by show (0:Int)<_;decide),_,_,rfl,rfl,_,rfl,?_,?_,λp pp=>k H p (Same.refl H) pp⟩
  ·show (2:Int)<=2+c/3*48271%999982;omega
  ·show 2+c/3*48271%999982<=(999983:Int);omega
theorem Zl1:FnScope ["_law_prime_here","_law_number"] ["_law_prime_here","_law_number"] (Zah Zgy):=‹2›
theorem Zl2(h:Here K mg "_law_make" Zgy):Has P w K mg base "_law_make" 1 ["_law_prime_here","_law_number"] ZbH:=by
 refine h.has (λ_ _ F=>F.b2 λ_ _ _ _ _ _ _ _=>rfl) λf fd F=>F.ok Zl1 (λvs H Q E h=>?_) (λcdv A outer s H vs Q E hr h=>?_)
 ·obtain ⟨_,_,_,rfl,_⟩:=h
  rfl
 obtain ⟨κ,t,x,rfl,nx,k⟩:=h;refine ⟨_,(Zac (ZaB (Zar Zby (pv 0) Zad (Zav _)) (Zae (Zal (ZbU (Zaa (pv 1) (Zaa Zad Zab))))) Zat)
  (Zae (Zal (Zan Zbo (pv 1) (pv 0))))),?_⟩
 refine ⟨_,rfl,rfl,_,rfl,?_⟩
 cases κ with
 |r p hp =>
  have h2:=hp.two;refine Zla (show (KX.r p hp).P≠0 by have:0<(KX.r p hp).P:=Zk9;omega) ⟨_,rfl,_,rfl,_,_,rfl,rfl,(show (p:Int)≠0 by omega),k H _ (Same.refl H) ?_⟩;show V.int (t.fmod p)=V.int x.val;have e:(Fin.val x:Int)=t%p:=nx.2;rw[Wm _ ⋯,e]
 |q =>
  refine Zio (show KX.q.P=0 from rfl) ⟨_,rfl,(by show 2<=sizeLine;decide),λr nr=>?_⟩;refine k _ _ (Zag nr _) ⟨r,rfl,?_⟩;have e1:Rat.num x=t:=nx.1;have e2:Rat.den x=1:=nx.2;rw[Zaf,e1,e2];rfl
theorem Zf6:FnScope ["_law_prime_here","_law_found"] ["_law_prime_here","_law_found"] (Zah ZcJ):=‹2›
theorem Zf7(h:Here K mg "_law_is_number" ZcJ) (T:Nm mg) (h_l_whole:Has P w K mg base "_law_whole" 1 ["_law_found"] ZdY) (h_l_divisor:Has P w K mg base "_law_divisor" 1 ["_law_one","_law_other"] ZaW):Has P w K mg base "_law_is_number" 2 ["_law_prime_here","_law_found"] Zdb:=by
 refine h.has (λ_ _ F=>F.b2 λ_ _ _ _ _ _ _ _=>rfl) λf fd F=>F.ok Zf6 (λvs H Q E h=>?_) (λcdv A outer s H vs Q E hr h=>?_)
 ·obtain ⟨_,_,_,rfl,_⟩:=h
  rfl
 obtain ⟨κ,u,x,rfl,nu,k⟩:=h;refine ⟨_,(Zac (ZaB (Zar ZfR (pv 0) Zad (Zav _)) (Zae (Zal (Zhf (Zam h_l_whole hr (by rfl) (Zaa (pv 1) Zab)) (Zf9 (Zmg Zn8 Zef Zad (pv 1) (pv 0)))))) Zat)
  (Zac (ZaB (Zcw (Zb6 (ZaF (Zaj Zaw (by rfl) T.isinstance boot_isinstance (Zaa (pv 1) (Zaa (ZcX (by rfl) T.tuple boot_tuple) Zab))))) (Zcw (Zar Zgo (Zaj Zai (by rfl) T.len boot_len (Zaa (pv 1) Zab)) Zad (Zav _)) (Zcw (Zb6 (ZaF (Zam h_l_whole hr (by rfl) (Zaa (Zao Zax (pv 1) Zad (λ_ _=>rfl)) Zab)))) (ZcT (Zb6 (ZaF (Zam h_l_whole hr (by rfl) (Zaa (Zao Zax (pv 1) Zad (λ_ _=>rfl)) Zab)))))))).pt (Zae (Zal Zdr)) Zat)
  (Zae (Zal (Zhf (Zcg ZfR (Zao Zax (pv 1) Zad (λ_ _=>rfl)) Zad (Zav _)) (Zf9 (Zcg Zby (Zam h_l_divisor hr (by rfl) (Zaa (Zao Zax (pv 1) Zad (λ_ _=>rfl)) (Zaa (Zao Zax (pv 1) Zad (λ_ _=>rfl)) Zab))) Zad (Zav _)))))))),?_⟩
 refine ⟨_,rfl,_,_,rfl,rfl,_,rfl,?_⟩
 cases κ with
 |r p hp =>
  have nu:u = .int x.val:=nu;subst nu;have xl:=x.isLt;exact Zfw (show (0:Int)<(KX.r p hp).P from Zk9) ⟨_,rfl,_,rfl,_,rfl,ZjK ⟨_,rfl,_,_,rfl,rfl,_,rfl,Zfw (show (0:Int)<=x.val by omega) ⟨_,rfl,_,_,rfl,rfl,ZnE (show (x.val:Int)<(p:Int) by omega) k⟩⟩⟩
 |q =>
  obtain ⟨a,rfl,ha⟩:=nu;have fx:=Zbf x;refine Zk6 (show ¬(0:Int)<0 by decide) ?_;refine ⟨_,rfl,_,_,_,_,rfl,.of (.tup ha),.ty (Zb8 K _),_,rfl,Zdt ?_⟩;refine ⟨_,rfl,a,_,rfl,.inr (SqT.of ha),rfl,_,rfl,ZeN (λz=>absurd rfl z) (λ_=>?_)⟩;refine ⟨_,rfl,a,_,0,_,rfl,rfl,SqT.of ha,rfl,_,rfl,_,rfl,Zdt ?_⟩;refine ⟨_,rfl,a,_,1,_,rfl,rfl,SqT.of ha,rfl,_,rfl,_,rfl,Zdt ?_⟩;refine ⟨_,rfl,a,_,1,_,rfl,rfl,SqT.of ha,rfl,_,_,rfl,rfl,_,rfl,Zfw (show (0:Int)<x.den from fx.pos) ?_⟩;refine ⟨_,rfl,a,_,0,_,rfl,rfl,SqT.of ha,rfl,_,rfl,a,_,1,_,rfl,rfl,SqT.of ha,rfl,_,_,rfl,rfl,ZnE (show V.int ((Int.gcd x.num x.den:Nat):Int)=V.int 1 by rw[fx.cop];rfl) k⟩
end
inductive ZfQ (CF CR:Addr) (vs:List V) (H:Hp) (Q:VK) (zE:XK):Prop
 |mk (p:Int) (_:vs=[.int p]) (_:PK p) (_:∀(H':Hp) (k:Addr),Same H H'->KdA CF CR p H' k->Q (.ref k) H'):ZfQ CF CR vs H Q zE
section
variable{P:Program}{w:World}{K:ZZfg}{mg:ZZmg}{base:Heap}{CF CR cN:Addr}
theorem Zl3:FnScope ["_law_prime_here"] ["_law_prime_here"] (Zah Zgx):=‹2›
theorem Zl4(h:Here K mg "_law_kind" Zgx) (kd:Kd K mg CF CR) (hI:HasI P w K mg base CR 2 ["self","prime"] (ZgE CR)):Has P w K mg base "_law_kind" 4 ["_law_prime_here"] (ZfQ CF CR):=by
 refine h.has (λ_ _ F=>F.b1 λ_ _ _ _ _ _ _=>rfl) λf fd F=>F.ok Zl3 (λvs H Q E h=>?_) (λcdv A outer s H vs Q E hr h=>?_)
 ·obtain ⟨_,rfl,_⟩:=h
  rfl
 obtain ⟨p,rfl,hp,k⟩:=h;refine ⟨_,(Zac (ZaB (Zar Zby (pv 0) Zad (Zav _)) (Zae (Zal (ZkH kd.mkF (by rfl) kd.mgF))) Zat)
  (Zae (Zal (ZeX hI hr (by rfl) kd.mgR (Zaa (pv 0) Zab))))),?_⟩
 refine ⟨_,rfl,rfl,_,rfl,?_⟩;refine Zbx (λz=>?_) (λz=>?_)
 ·intro f0 df0 nf0 ndf0 nef0;refine k _ f0 (λb o e=>?_) (.inl ⟨z,df0,Zaf⟩);rw[Zau (Zay e nf0),Zau (Zay e ndf0)];exact e
 ·rcases hp with rfl|⟨pr1,lp1⟩
  ·exact absurd rfl z
  refine ⟨_,rfl,λx1 dx1 nx1 ndx1 nex1=>⟨x1,dx1,p,rfl,Zaf,pr1,lp1,rfl,?_⟩⟩;refine k _ x1 (λb o e=>?_) (.inr ⟨pr1,lp1,dx1,Zaf⟩);rw[Zau (Zay e nx1),Zau (Zay e nx1),Zau (Zay e ndx1)];exact e
end
section
variable{P:Program}{w:World}{K:ZZfg}{mg:ZZmg}{base:Heap}
theorem Zkc:FnScope ["_law_prime_here","_law_one","_law_other"] ["_law_prime_here","_law_one","_law_other"] (Zah Zfn):=‹2›
theorem ZiR(h:Here K mg "_law_times" Zfn) (h_l_fraction:Has P w K mg base "_law_fraction" 2 ["_law_top","_law_bottom"] Zfx):Has P w K mg base "_law_times" 3 ["_law_prime_here","_law_one","_law_other"] (Zbm λ_ x y=>x*y):=by
 refine h.has (λ_ _ F=>F.b3 λ_ _ _ _ _ _ _ _ _=>rfl) λf fd F=>F.ok Zkc (λvs H Q E h=>?_) (λcdv A outer s H vs Q E hr h=>?_)
 ·obtain ⟨_,_,_,_,_,rfl,_⟩:=h
  rfl
 obtain ⟨κ,u,v,x,y,rfl,nx,ny,bx,by',k⟩:=h;refine ⟨_,(Zac (ZaB (Zar Zby (pv 0) Zad (Zav _)) (Zae (Zal (Zam h_l_fraction hr (by rfl) (Zaa (Zan ZaC (Zao Zax (pv 1) Zad (λ_ _=>rfl)) (Zao Zax (pv 2) Zad (λ_ _=>rfl))) (Zaa (Zan ZaC (Zao Zax (pv 1) Zad (λ_ _=>rfl)) (Zao Zax (pv 2) Zad (λ_ _=>rfl))) Zab))))) Zat)
  (Zae (Zal (Zan Zbo (Zan ZaC (pv 1) (pv 2)) (pv 0))))),?_⟩
 refine ⟨_,rfl,rfl,_,rfl,?_⟩
 cases κ with
 |q =>
  obtain ⟨a,rfl,ha⟩:=nx;obtain ⟨b,rfl,hb⟩:=ny;refine Zio (show KX.q.P=0 from rfl) ?_;have px:=(Zbf x).pos;have py:=(Zbf y).pos;refine ⟨_,rfl,a,_,0,_,rfl,rfl,SqT.of ha,rfl,_,rfl,b,_,0,_,rfl,rfl,SqT.of hb,rfl,_,_,rfl,rfl,bx.1.mulT by'.1,_,rfl,a,_,1,_,rfl,rfl,SqT.of ha,rfl,_,rfl,b,_,1,_,rfl,rfl,SqT.of hb,rfl,_,_,rfl,rfl,(bx.2.up ∅).mulG by'.2,_,_,rfl,W8 px py,(bx.2.times by'.2),λr hr'=>?_⟩;have e:x*y=Rat.divInt (x.num*y.num) ((x.den:Int)*y.den):=by
   rw[<-U2,W3,W3]
  refine k _ _ (Zag hr' _) ⟨r,rfl,?_⟩;rw[Zaf];show _=some (HO.tup [.int (x*y).num,.int ((x*y).den:Int)]);rw[e]
 |r p hp =>
  have nx:u = .int x.val:=nx;have ny:v = .int y.val:=ny;subst nx ny;refine Zla (show (KX.r p hp).P≠0 by have:0<(KX.r p hp).P:=Zk9;omega) ⟨_,rfl,_,rfl,_,_,rfl,rfl,Zbt (Za4 hp x) (Za4 hp y),_,rfl,_,_,rfl,rfl,(show (p:Int)≠0 by have:=hp.two;omega),k H _ (Same.refl H) ?_⟩;show V.int (((x.val:Int)*y.val).fmod p)=V.int ((Fin.val (x*y):Nat):Int);have e:Fin.val (x*y)=(x.val*y.val)%p:=Fin.val_mul x y;rw[e,Ww,W1,Wm _ ⋯]
theorem Zl5:FnScope ["_law_prime_here","_law_one","_law_other"] ["_law_prime_here","_law_one","_law_other"] (Zah Zgz):=‹2›
theorem Zkd(h:Here K mg "_law_plus" Zgz) (h_l_fraction:Has P w K mg base "_law_fraction" 2 ["_law_top","_law_bottom"] Zfx):Has P w K mg base "_law_plus" 3 ["_law_prime_here","_law_one","_law_other"] (Zbm λ_ x y=>x+y):=by
 refine h.has (λ_ _ F=>F.b3 λ_ _ _ _ _ _ _ _ _=>rfl) λf fd F=>F.ok Zl5 (λvs H Q E h=>?_) (λcdv A outer s H vs Q E hr h=>?_)
 ·obtain ⟨_,_,_,_,_,rfl,_⟩:=h
  rfl
 obtain ⟨κ,u,v,x,y,rfl,nx,ny,bx,by',k⟩:=h;refine ⟨_,(Zac (ZaB (Zar Zby (pv 0) Zad (Zav _)) (Zae (Zal (Zam h_l_fraction hr (by rfl) (Zaa (Zan ZaM (Zan ZaC (Zao Zax (pv 1) Zad (λ_ _=>rfl)) (Zao Zax (pv 2) Zad (λ_ _=>rfl))) (Zan ZaC (Zao Zax (pv 2) Zad (λ_ _=>rfl)) (Zao Zax (pv 1) Zad (λ_ _=>rfl)))) (Zaa (Zan ZaC (Zao Zax (pv 1) Zad (λ_ _=>rfl)) (Zao Zax (pv 2) Zad (λ_ _=>rfl))) Zab))))) Zat)
  (Zae (Zal (Zan Zbo (Zan ZaM (pv 1) (pv 2)) (pv 0))))),?_⟩
 refine ⟨_,rfl,rfl,_,rfl,?_⟩
 cases κ with
 |q =>
  obtain ⟨a,rfl,ha⟩:=nx;obtain ⟨b,rfl,hb⟩:=ny;refine Zio (show KX.q.P=0 from rfl) ?_;have px:=(Zbf x).pos;have py:=(Zbf y).pos;refine ⟨_,rfl,a,_,0,_,rfl,rfl,SqT.of ha,rfl,_,rfl,b,_,1,_,rfl,rfl,SqT.of hb,rfl,_,_,rfl,rfl,bx.1.mulG by'.2,_,rfl,b,_,0,_,rfl,rfl,SqT.of hb,rfl,_,rfl,a,_,1,_,rfl,rfl,SqT.of ha,rfl,_,_,rfl,rfl,by'.1.mulG bx.2,_,_,rfl,rfl,_,rfl,a,_,1,_,rfl,rfl,SqT.of ha,rfl,_,rfl,b,_,1,_,rfl,rfl,SqT.of hb,rfl,_,_,rfl,rfl,(bx.2.up ∅).mulG by'.2,_,_,rfl,W8 px py,(bx.2.times by'.2),λr hr'=>?_⟩;have e:x+y=Rat.divInt (x.num*y.den+y.num*x.den) ((x.den:Int)*y.den):=by
   rw[<-Rat.divInt_add_divInt _ _ ⋯ ⋯,W3,W3]
  refine k _ _ (Zag hr' _) ⟨r,rfl,?_⟩;rw[Zaf];show _=some (HO.tup [.int (x+y).num,.int ((x+y).den:Int)]);rw[e]
 |r p hp =>
  have nx:u = .int x.val:=nx;have ny:v = .int y.val:=ny;subst nx ny;refine Zla (show (KX.r p hp).P≠0 by have:0<(KX.r p hp).P:=Zk9;omega) ⟨_,rfl,_,rfl,_,_,rfl,rfl,_,rfl,_,_,rfl,rfl,(show (p:Int)≠0 by have:=hp.two;omega),k H _ (Same.refl H) ?_⟩;show V.int (((x.val:Int)+y.val).fmod p)=V.int ((Fin.val (x+y):Nat):Int);have e:Fin.val (x+y)=(x.val+y.val)%p:=Fin.val_add x y;rw[e,Ww,Int.natCast_add,Wm _ ⋯]
theorem Zke:FnScope ["_law_prime_here","_law_number"] ["_law_prime_here","_law_number"] (Zah Zfp):=‹2›
theorem ZiS(h:Here K mg "_law_drawn" Zfp) (h_l_fraction:Has P w K mg base "_law_fraction" 2 ["_law_top","_law_bottom"] Zfx):Has P w K mg base "_law_drawn" 3 ["_law_prime_here","_law_number"] ZdN:=by
 refine h.has (λ_ _ F=>F.b2 λ_ _ _ _ _ _ _ _=>rfl) λf fd F=>F.ok Zke (λvs H Q E h=>?_) (λcdv A outer s H vs Q E hr h=>?_)
 ·obtain ⟨_,_,rfl,_⟩:=h
  rfl
 obtain ⟨κ,c,rfl,k⟩:=h;refine ⟨_,(Zac (ZaB (Zar ZfR (pv 0) Zad (Zav _)) (Zae (Zal (Zao Zap (ZaN (Zaa Zad (Zaa Zad (Zaa (Zan Zbe (pv 0) Zad) (Zaa (Zan Zbo (Zan Zee (pv 1) Zad) (pv 0)) Zab))))) (Zan ZcU (pv 1) Zad) (λ_ _=>rfl)))) Zat)
  (Zac (ZaB (Zar Zby (Zan ZcU (pv 1) Zad) Zad (Zav _)) (Zae (Zal (ZbU (Zaa (Zan Zbe (Zan ZcU (Zan Zee (pv 1) Zad) Zad) Zad) (Zaa Zad Zab))))) Zat)
  (Zae (Zal (Zam h_l_fraction hr (by rfl) (Zaa (Zan Zbe (Zan ZcU (Zan Zee (pv 1) Zad) Zad) Zad) (Zaa (Zan ZaM Zad (Zan ZcU (Zan Zee (pv 1) Zad) Zad)) Zab))))))),?_⟩
 refine ⟨_,rfl,_,_,rfl,rfl,_,rfl,?_⟩
 cases κ with
 |r p hp =>
  have h2:=hp.two;refine Zfw (show (0:Int)<(KX.r p hp).P from Zk9) ⟨_,rfl,_,_,rfl,rfl,_,rfl,_,_,rfl,rfl,⟨∅,∅⟩,_,rfl,_,_,rfl,rfl,(show (p:Int)≠0 by omega),(by show 4<=sizeLine;decide),λl nl=>?_⟩;obtain ⟨x4,e4⟩:=ZpR hp (c/4);have key:∃(v:V) (x:Fin p),atI [V.int 0,V.int 1,V.int ((p:Int)-1),V.int ((c/4).fmod p)] (c%4)=some v/\v = .int (x.val:Int):=by
   rcases (by omega:c%4=0\/c%4=1\/c%4=2\/c%4=3) with e|e|e|e <;> rw[e]
   ·exact ⟨_,⟨0,⋯⟩,rfl,rfl⟩
   ·exact ⟨_,⟨1,⋯⟩,rfl,rfl⟩
   ·exact ⟨_,⟨p-1,⋯⟩,rfl,by show V.int ((p:Int)-1)=V.int (((p-1:Nat)):Int);congr 1;omega⟩
   ·exact ⟨_,x4,rfl,by rw[e4]⟩
  obtain ⟨v,x,av,ev⟩:=key;exact ⟨_,rfl,_,_,rfl,rfl,(by show (0:Int)<_;decide),l,_,_,_,rfl,rfl,SqL.of Zaf,av,k _ v x (Zag nl _) ev trivial⟩
 |q =>
  refine Zk6 (show ¬(0:Int)<0 by decide) ?_;refine ⟨_,rfl,_,_,rfl,rfl,(by show (0:Int)<_;decide),rfl,_,rfl,?_⟩;refine Zbx (λ_=>?_) (λ_=>?_)
  ·obtain ⟨x,e1,e2⟩:=Zjd (n:=c/3%3-1) (d:=1) ⟨∅,by rw[Int.gcd_one]⟩;refine ⟨_,rfl,_,_,rfl,rfl,⟨∅,∅⟩,_,_,rfl,rfl,(by show (0:Int)<_;decide),_,_,rfl,rfl,(by show 2<=sizeLine;decide),λz nz=>?_⟩;have ex:x=Rat.divInt (c/3%3-1) 1:=by rw[<-e1,<-e2,W3]
   refine k _ _ x (Zag nz _) ⟨z,rfl,?_⟩ ?_
   ·rw[Zaf,e1,e2]
   ·rw[ex];exact ZrK ∅ ∅ ⋯
  ·refine ⟨_,rfl,_,_,rfl,rfl,⟨∅,∅⟩,_,_,rfl,rfl,(by show (0:Int)<_;decide),_,_,rfl,rfl,_,rfl,_,_,rfl,rfl,⟨∅,∅⟩,_,_,rfl,rfl,(by show (0:Int)<_;decide),_,_,rfl,rfl,c/3%19-9,1+c/57%4,rfl,⋯,Bits.of (Q8 (show _<2^3 by show _<8;omega) (Q7 ∅ ∅)),λr nr=>?_⟩;exact k _ _ (Rat.divInt (c/3%19-9) (1+c/57%4)) (Zag nr _) ⟨r,rfl,Zaf⟩ (ZrK ⋯ ⋯ ⋯)
theorem sc_l_is_row:FnScope ["_law_prime_here","_law_found","_law_many","_law_one"] ["_law_prime_here","_law_found","_law_many"] (Zah Zek):=‹2›
theorem Zhc(h:Here K mg "_law_is_row" Zek) (T:Nm mg) (h_l_is_number:Has P w K mg base "_law_is_number" 2 ["_law_prime_here","_law_found"] Zdb):Has P w K mg base "_law_is_row" 3 ["_law_prime_here","_law_found","_law_many"] ZcO:=by
 refine h.has (λ_ _ F=>F.b3 λ_ _ _ _ _ _ _ _ _=>rfl) λf fd F=>F.ok sc_l_is_row (λvs H Q E h=>?_) (λcdv A outer s H vs Q E hr h=>?_)
 ·obtain ⟨_,_,_,_,rfl,_⟩:=h
  rfl
 obtain ⟨κ,a,xs,fl,rfl,ha,al,k⟩:=h;have nd:=sc_l_is_row.nd;refine ⟨_,(Zac (ZaB (Zcw (Zb6 (ZaF (Zaj Zaw (by rfl) T.isinstance boot_isinstance (Zaa (pv 1) (Zaa (ZcX (by rfl) T.list boot_list) Zab))))) (ZcT (Zar Zgo (Zaj Zai (by rfl) T.len boot_len (Zaa (pv 1) Zab)) (pv 2) (Zav _)))).pt (Zae (Zal Zdr)) Zat)
  (Zac (Za2 PassesOwn.never rfl (ZaD (pv 1)) (Zaq (i:=3) nd rfl (Or.inl rfl)) (Zae (ZaB (Zb6 (ZaF (Zam h_l_is_number hr (by rfl) (Zaa (pv 0) (Zaa (pv 3) Zab))))) (Zae (Zal Zdr)) Zat)))
  (Zae (Zal Zdr)))),?_⟩
 refine ⟨_,rfl,_,_,_,_,rfl,.of (.lst ha),.ty (Zb8 K _),_,rfl,Zdt ?_⟩;refine ⟨_,rfl,a,_,rfl,.inl (SqL.of ha),_,rfl,rfl,_,rfl,?_⟩;rw[al.1];refine ZeN (λz=>absurd rfl z) (λ_=>?_);refine ⟨_,rfl,a,rfl,⟨_,SqL.of ha⟩,?_⟩;refine ZbV (xs:=xs) (λj σ H4=>∃z3:Option V,σ=[some (.int κ.P),some (.ref a),some (.int (fl.length:Int)),z3]/\H4=H) ⟨_,rfl,rfl⟩ ?_ ?_ ?_
 ·rintro j σ H4-⟨z3,rfl,rfl⟩;exact SqL.of ha
 ·rintro j u σ H4 hu ⟨z3,rfl,rfl⟩;obtain ⟨x,hx',nx⟩:=al.get hu;exact ⟨_,rfl,_,rfl,κ,u,x,rfl,nx,_,rfl,Zdt ⟨_,rfl,rfl⟩⟩
 ·rintro σ H4 ⟨z3,rfl,rfl⟩;exact k
theorem Zkf:FnScope ["_law_prime_here","_law_one","_law_other"] ["_law_prime_here","_law_one","_law_other"] (Zah Zfo):=‹2›
theorem ZhY(h:Here K mg "_law_minus" Zfo) (h_l_make:Has P w K mg base "_law_make" 3 ["_law_prime_here","_law_number"] ZbH) (h_l_plus:Has P w K mg base "_law_plus" 3 ["_law_prime_here","_law_one","_law_other"] (Zbm λ_ x y=>x+y)) (h_l_times:Has P w K mg base "_law_times" 3 ["_law_prime_here","_law_one","_law_other"] (Zbm λ_ x y=>x*y)):Has P w K mg base "_law_minus" 4 ["_law_prime_here","_law_one","_law_other"] (Zbm λ_ x y=>x-y):=by
 refine h.has (λ_ _ F=>F.b3 λ_ _ _ _ _ _ _ _ _=>rfl) λf fd F=>F.ok Zkf (λvs H Q E h=>?_) (λcdv A outer s H vs Q E hr h=>?_)
 ·obtain ⟨_,_,_,_,_,rfl,_⟩:=h
  rfl
 obtain ⟨κ,u,v,x,y,rfl,nu,nv,bx,by_,k⟩:=h;refine ⟨_,(Zae (Zal (Zam h_l_plus hr (by rfl) (Zaa (pv 0) (Zaa (pv 1) (Zaa (Zam h_l_times hr (by rfl) (Zaa (pv 0) (Zaa (Zam h_l_make hr (by rfl) (Zaa (pv 0) (Zaa (Zds ZbT Zad) Zab))) (Zaa (pv 2) Zab)))) Zab)))))),?_⟩;refine ⟨_,rfl,_,rfl,_,rfl,_,rfl,_,rfl,κ,-1,Km1 κ,rfl,Zp1,λH1 vm S1 nm=>?_⟩;refine ⟨_,rfl,κ,vm,v,_,_,rfl,nm,nv.same S1,Zq9,by_,λH2 t S2 nt=>?_⟩;have nt:NR κ H2 t (Km1 κ*y):=nt;rw[ZmL] at nt;refine ⟨κ,u,t,_,_,rfl,nu.same (S1.trans S2),nt,bx,Zlc by_,λH3 t3 S3 nt3=>?_⟩;have nt3:NR κ H3 t3 (x+(0-y)):=nt3;refine k H3 t3 (S1.trans (S2.trans S3)) ?_;show NR κ H3 t3 (x-y);rw[show x-y=x+(0-y) by grind];exact nt3
theorem ZhZ:FnScope ["_law_cells","_law_k"] ["_law_cells","_law_k"] (Zah ZdG):=‹2›
theorem Zh0(h:Here K mg "_law_cell_at" ZdG) (T:Nm mg):Has P w K mg base "_law_cell_at" 1 ["_law_cells","_law_k"] (Zcf K):=by
 refine h.has (λ_ _ F=>F.b2 λ_ _ _ _ _ _ _ _=>rfl) λf fd F=>F.ok ZhZ (λvs H Q E h=>?_) (λcdv A outer s H vs Q E hr h=>?_)
 ·obtain ⟨_,_,_,rfl,_⟩:=h
  rfl
 obtain ⟨a,cs,i,rfl,ha,i0,k⟩:=h;refine ⟨_,(Zac (ZaB (Zar Zef (pv 1) (Zaj Zai (by rfl) T.len boot_len (Zaa (pv 0) Zab)) (Zav _)) (Zae (Zal (Zao Zap (pv 0) (pv 1) (λ_ _=>rfl)))) Zat)
  (Zae (Zal Zad))),?_⟩
 refine ⟨_,rfl,_,rfl,a,_,rfl,.inl ha,_,_,rfl,rfl,_,rfl,?_⟩;rw[Q2];refine Za8 (λz=>?_) (λz=>k 0);have z:i<(cs.length:Int):=z;have e:i=((i.toNat:Nat):Int):=⋯;exact ⟨_,rfl,_,rfl,a,_,_,_,rfl,rfl,ha,(by rw[e];exact ZpO (i:=i.toNat) ⋯),k _⟩
theorem sc_l_rows_by:FnScope ["_law_prime_here","_law_cells","_law_at","_law_rows","_law_columns","_law_told","_law_i"] ["_law_prime_here","_law_cells","_law_at","_law_rows","_law_columns"] (Zah ZdH):=‹2›
theorem Zh1(h:Here K mg "_law_rows_by" ZdH) (T:Nm mg) (h_l_drawn:Has P w K mg base "_law_drawn" 3 ["_law_prime_here","_law_number"] ZdN) (h_l_cell_at:Has P w K mg base "_law_cell_at" 3 ["_law_cells","_law_k"] (Zcf K)):Has P w K mg base "_law_rows_by" 4 ["_law_prime_here","_law_cells","_law_at","_law_rows","_law_columns"] Zdf:=by
 refine h.has (λf fd F=>F.binds λ_ _ _ _ _ _ us hl=>by obtain ⟨_,_,_,_,_,rfl⟩:=ZrJ hl;exact rfl) λf fd F=>F.ok sc_l_rows_by (λvs H Q E h=>?_) (λcdv A outer s H vs Q E hr h=>?_)
 ·obtain ⟨_,_,_,_,_,_,rfl,_⟩:=h
  rfl
 obtain ⟨κ,ca,cs,a0,n,m,rfl,hC,a1,a2,n7,m7,k⟩:=h;have nd:=sc_l_rows_by.nd;refine ⟨_,(Zac (Zak (i:=5) nd rfl (Or.inl rfl) (ZaN Zab))
  (Zac (Za2 PassesOwn.never rfl (ZaE (by rfl) T.range (Zaa (pv 3) Zab)) (Zaq (i:=6) nd rfl (Or.inr rfl)) (Zae (ZaT (ZeU PySem.F.plainAttrs_list PySem.F.slot_list_append PySem.F.type_list_append Za6 (pv 5) (Zaa (ZaU ["_law_j"] [(0,"_law_prime_here"),(1,"_law_cells"),(2,"_law_at"),(4,"_law_columns"),(6,"_law_i")] rfl (ZaE (by rfl) T.range (Zaa (pv 4) Zab)) (by exact λ_ _ _ _=>(Zaq (i:=0) (show (["_law_j","_law_prime_here","_law_cells","_law_at","_law_columns","_law_i"]:List Str).Nodup by decide +kernel) rfl (Or.inl rfl))) (by exact λ_ _ _ _=>(Zam h_l_drawn hr (by rfl) (Zaa (pv 1) (Zaa (Zam h_l_cell_at hr (by rfl) (Zaa (pv 2) (Zaa (Zan ZaM (Zan ZaM (pv 3) (Zan ZaC (pv 4) (pv 5))) (pv 0)) Zab))) Zab)))) ⟨⟨rfl,rfl,Or.inl rfl⟩,⟨⟨rfl,rfl,Or.inl rfl⟩,⟨⟨rfl,rfl,Or.inl rfl⟩,⟨⟨rfl,rfl,Or.inl rfl⟩,⟨⟨rfl,rfl,Or.inl rfl⟩,trivial⟩⟩⟩⟩⟩) Zab)))))
  (Zae (Zal (pv 5))))),?_⟩
 refine ⟨(by show 0<=sizeLine;decide),λtb ntb=>?_⟩;have St:=Zag ntb (.lst []);have qt:=Zaf (H:=H) (a:=tb) (o:=.lst []);generalize upd H tb (.lst [])=H1 at *;refine ⟨_,rfl,(n:Int),rfl,⋯,⋯,?_⟩;rw[Qu];refine Zbi (lo:=0) (n:=n) (λi σ H3=>∃(z6:Option V) (rs:ZZla) (R:ZZll κ),σ=[some (.int κ.P),some (.ref ca),some (.int a0),some (.int (n:Int)),some (.int (m:Int)),some (.ref tb),z6]/\Same H H3/\H3 tb=some (.lst (rs.map V.ref))/\RowsX κ H3 rs R/\R.length=i/\Wid m R/\AllR (QN κ ((12:Nat):Int) 108) R/\tb∉rs/\rs.Nodup/\∀a∈rs,H a=none) ⟨_,[],[],rfl,St,qt,.nil,rfl,(λf h=>nomatch h),(λf h=>nomatch h),(λz=>nomatch z),List.nodup_nil,λa h=>nomatch h⟩ ?_ ?_
 ·rintro i σ H3 hi ⟨z6,rs,R,rfl,S3,hT,rx,lR,wd,qR,nt,ndr,fr⟩;have lr:=rx.1;refine ⟨_,rfl,.inl ⟨rfl,_,SqL.of hT⟩,_,rfl,(m:Int),rfl,⋯,⋯,?_⟩;rw[Qu];refine Zbc (lo:=0) (n:=m) (λq ys H4=>Same H3 H4/\∃g:ZZlk κ,AllG (NR κ H4) ys g/\g.length=q/\∀x∈g,QN κ 12 108 x) ⋯ ⟨Same.refl _,[],.nil,rfl,λx h=>nomatch h⟩ ?_ ?_
  ·rintro q ys H4 hq _ ⟨S4,g,ag,lg,qg⟩;refine ⟨_,rfl,_,rfl,_,rfl,_,rfl,_,rfl,_,_,rfl,rfl,Zbt (Q0 (show ((m:Int)).natAbs<=1000 by omega) ∅) (Q0 (show ((0+(i:Int))).natAbs<=1000 by omega) ∅),_,_,rfl,rfl,_,rfl,_,_,rfl,rfl,ca,cs,_,rfl,SqL.of ((S3.trans S4) _ _ hC),?_,λc=>?_⟩
   ·have:0<=(m:Int)*(0+(i:Int)):=Uu ⋯ ⋯;omega
   ·refine ⟨κ,c,rfl,λH7 v x S7 nv qv=>⟨S4.trans S7,g++[x],(ag.mono λ_ _ n=>n.same S7).append (.one nv),by rw[Qg,lg];rfl,λy hy=>?_⟩⟩;rcases Qx.mp hy with z|z
    ·exact qg y z
    ·rw[Q6.mp z];exact qv
  rintro ys H4 _ ⟨S4,g,ag,lg,qg⟩ rw_ nrw4;have nrw:H3 rw_=none:=S4.free nrw4;have nwr:=rx.notin nrw;have nwt:rw_≠tb:=λz=>by rw[z,hT] at nrw;cases nrw
  have Sw:=Zag nrw4 (.lst ys);have qw:=Zaf (H:=H4) (a:=rw_) (o:=.lst ys);have S5:=S4.trans Sw;have e5:=ag.mono λ_ _ n=>n.same Sw;generalize upd H4 rw_ (.lst ys)=H5 at *;have hT5:=S5 _ _ hT;refine ⟨tb,_,_,rfl,rfl,hT5,Q8 (show (rs.map V.ref).length<1000 by rw[Q2];omega) ∅,?_⟩;have O9:Off [tb] H5 (upd H5 tb (.lst (rs.map V.ref++[.ref rw_]))):=ZaZ (Same.refl H5);refine ⟨_,rs++[rw_],R++[g],rfl,Off.same O9 (S3.trans S5) (λz hz=>by rw[Q6.mp hz];exact ntb),by rw[Zaf,Qn];rfl,((rx.same S5).off nt hT5 O9).snoc (O9 _ _ (λz=>nwt (Q6.mp z)) qw) (e5.mono λ_ _ n=>n.off hT5 O9),by rw[Qg,lR];rfl,wd.snoc lg,qR.snoc qg,λz=>?_,ZjZ ndr nwr,λz hz=>?_⟩
  ·rcases Qx.mp z with q|q
   ·exact nt q
   ·exact nwt (Q6.mp q).symm
  ·rcases Qx.mp hz with q|q
   ·exact fr z q
   ·rw[Q6.mp q];exact S3.free nrw
 ·rintro σ H3 ⟨z6,rs,R,rfl,S3,hT,rx,lR,wd,qR,nt,ndr,fr⟩;exact ⟨_,rfl,k H3 tb rs R S3 hT rx lR wd qR fr ndr⟩
theorem Zl6:FnScope ["_law_prime_here","_law_cell"] ["_law_prime_here","_law_cell"] (Zah ZgA):=‹2›
theorem ZiT(h:Here K mg "_law_size" ZgA):Has P w K mg base "_law_size" 1 ["_law_prime_here", "_law_cell"] ZdQ:=by
  refine h.has (λ_ _ F=>F.b2 λ_ _ _ _ _ _ _ _=>rfl) λf fd F=>F.ok Zl6 (λvs H Q E h=>?_) (λcdv A outer s H vs Q E hr h=>?_)
  · obtain ⟨_,_,rfl,_⟩:=h
    rfl
  obtain ⟨κ,c,rfl,k⟩:=h;refine ⟨_,(Zac (ZaB (Zar Zby (pv 0) Zad (Zav _)) (Zae (Zal (Zao Zap (ZaN (Zaa Zad (Zaa Zad (Zaa Zad (Zaa Zad Zab))))) (Zan ZcU (pv 1) Zad) (λ_ _=>rfl)))) Zat)
    (Zae (Zal (Zao Zap (ZaN (Zaa Zad (Zaa Zad (Zaa Zad (Zaa Zad (Zaa Zad (Zaa Zad (Zaa Zad (Zaa Zad Zab))))))))) (Zan ZcU (pv 1) Zad) (λ_ _=>rfl))))),?_⟩
  refine ⟨_,rfl,rfl,_,rfl,?_⟩;refine Zbx (λ_=>?_) (λpz=>?_)
  · obtain ⟨n,en,n1,n7⟩:∃n:Nat,atI [V.int 1,V.int 2,V.int 2,V.int 3] (c%4)=some (.int (n:Int))/\1<=n/\n<=3:=by
      rcases (by omega:c%4=0\/c%4=1\/c%4=2\/c%4=3) with e | e | e | e <;> rw[e]
      · exact ⟨1,rfl,∅,∅⟩
      · exact ⟨2,rfl,∅,∅⟩
      · exact ⟨2,rfl,∅,∅⟩
      · exact ⟨3,rfl,∅,∅⟩
    refine ⟨(by show 4<=sizeLine; decide),λl nl=>?_⟩;exact ⟨_,rfl,_,_,rfl,rfl,(by show (0:Int)<_; decide),l,_,_,_,rfl,rfl,SqL.of Zaf,en,k _ n (Zag nl _) n1 ⋯ λ_=>n7⟩
  · obtain ⟨n,en,n1,n7⟩:∃n:Nat,atI [V.int 1,V.int 2,V.int 3,V.int 4,V.int 2,V.int 3,V.int 5,V.int 7] (c%8)=some (.int (n:Int))/\1<=n/\n<=7:=by
      rcases (by omega:c%8=0\/c%8=1\/c%8=2\/c%8=3\/c%8=4\/c%8=5\/c%8=6\/c%8=7) with e | e | e | e | e | e | e | e <;> rw[e]
      · exact ⟨1,rfl,∅,∅⟩
      · exact ⟨2,rfl,∅,∅⟩
      · exact ⟨3,rfl,∅,∅⟩
      · exact ⟨4,rfl,∅,∅⟩
      · exact ⟨2,rfl,∅,∅⟩
      · exact ⟨3,rfl,∅,∅⟩
      · exact ⟨5,rfl,∅,∅⟩
      · exact ⟨7,rfl,∅,∅⟩
    refine ⟨(by show 8<=sizeLine; decide),λl nl=>?_⟩;exact ⟨_,rfl,_,_,rfl,rfl,(by show (0:Int)<_; decide),l,_,_,_,rfl,rfl,SqL.of Zaf,en,k _ n (Zag nl _) n1 n7 λe=>absurd (by rw[e]; rfl) pz⟩
theorem sc_l_image:FnScope ["_law_prime_here","_law_table","_law_column","_law_told","_law_row","_law_one","_law_j"] ["_law_prime_here","_law_table","_law_column"] (Zah Zfq):=‹2›
theorem Zkg(h:Here K mg "_law_image" Zfq) (T:Nm mg) (h_l_make:Has P w K mg base "_law_make" 3 ["_law_prime_here","_law_number"] ZbH) (h_l_plus:Has P w K mg base "_law_plus" 3 ["_law_prime_here","_law_one","_law_other"] (Zbm λ_ x y=>x+y)) (h_l_times:Has P w K mg base "_law_times" 3 ["_law_prime_here","_law_one","_law_other"] (Zbm λ_ x y=>x*y)):Has P w K mg base "_law_image" 4 ["_law_prime_here","_law_table","_law_column"] ZeH:=by
 refine h.has (λ_ _ F=>F.b3 λ_ _ _ _ _ _ _ _ _=>rfl) λf fd F=>F.ok sc_l_image (λvs H Q E h=>?_) (λcdv A outer s H vs Q E hr h=>?_)
 ·obtain ⟨_,_,_,_,_,_,_,_,_,rfl,_⟩:=h
  rfl
 obtain ⟨κ,ta,ca,rs,R,xs,c,D,M,rfl,hT,rx,wd,n7,c7,hC,al,qR,qc,d0,dl,ml,k⟩:=h;have nd:=sc_l_image.nd;refine ⟨_,(Zac (Zak (i:=3) nd rfl (Or.inl rfl) (ZaN Zab))
  (Zac (Za2 PassesOwn.never rfl (ZaD (pv 1)) (Zaq (i:=4) nd rfl (Or.inl rfl)) (Zac (Zak (i:=5) nd rfl (Or.inl rfl) (Zam h_l_make hr (by rfl) (Zaa (pv 0) (Zaa Zad Zab))))
   (Zac (Za2 PassesOwn.never rfl (ZaE (by rfl) T.range (Zaa (Zaj Zai (by rfl) T.len boot_len (Zaa (pv 2) Zab)) Zab)) (Zaq (i:=6) nd rfl (Or.inl rfl)) (Zae (Zak (i:=5) nd rfl (Or.inl rfl) (Zam h_l_plus hr (by rfl) (Zaa (pv 0) (Zaa (pv 5) (Zaa (Zam h_l_times hr (by rfl) (Zaa (pv 0) (Zaa (Zao Zap (pv 4) (pv 6) (λ_ _=>rfl)) (Zaa (Zao Zap (pv 2) (pv 6) (λ_ _=>rfl)) Zab)))) Zab)))))))
   (Zae (ZaT (ZeU PySem.F.plainAttrs_list PySem.F.slot_list_append PySem.F.type_list_append Za6 (pv 3) (Zaa (pv 5) Zab)))))))
  (Zae (Zal (pv 3))))),?_⟩
 have lr:=rx.1;have lx:=al.1;refine ⟨(by show 0<=sizeLine;decide),λtb ntb=>?_⟩;have St:=Zag ntb (.lst []);have qt:=Zaf (H:=H) (a:=tb) (o:=.lst []);generalize upd H tb (.lst [])=H1 at *;refine ⟨_,rfl,ta,rfl,⟨_,SqL.of (St _ _ hT)⟩,?_⟩;refine ZbV (xs:=rs.map V.ref) (λi σ H2=>∃(z4 z5 z6:Option V) (zs:List V),σ=[some (.int κ.P),some (.ref ta),some (.ref ca),some (.ref tb),z4,z5,z6]/\Same H H2/\H2 tb=some (.lst zs)/\AllG (NR κ H2) zs ((R.take i).map λr=>Zf1 r c c.length)) ⟨_,_,_,[],rfl,St,qt,.nil⟩ ?_ ?_ ?_
 ·rintro i σ H2-⟨z4,z5,z6,zs,rfl,S2,-⟩;exact SqL.of (S2 _ _ hT)
 ·rintro i v σ H2 hv ⟨z4,z5,z6,zs,rfl,S2,q2,e2⟩;obtain ⟨b,hb,rfl⟩:=ZaA hv;obtain ⟨r,hr'⟩:=ZaV hb lr;obtain ⟨ws,hw,aw⟩:=rx.2 i b r hb hr';have mr:=Qc hr';have lw:=wd r mr;have hi:i<rs.length:=(Qo.mp hb).1;refine ⟨_,rfl,κ,0,0,rfl,ZfW,λH3 v0 S3 n0=>?_⟩;have S03:=S2.trans S3;refine ⟨_,rfl,ca,_,rfl,.inl (SqL.of (S03 _ _ hC)),(xs.length:Int),rfl,⋯,⋯,?_⟩;rw[show ((xs.length:Int)).toNat=c.length by omega];refine Zbi (lo:=0) (n:=c.length) (λj σ H4=>∃(z6:Option V) (v:V),σ=[some (.int κ.P),some (.ref ta),some (.ref ca),some (.ref tb),some (.ref b),some v,z6]/\Same H3 H4/\NR κ H4 v (Zf1 r c j)) ⟨_,v0,rfl,Same.refl _,n0⟩ ?_ ?_
  ·rintro j σ H4 hj ⟨z6,v,rfl,S4,nv⟩;obtain ⟨va,hva,na⟩:=Za1 aw (i:=j) ⋯;obtain ⟨vc,hvc,nc⟩:=Za1 al (i:=j) hj;have S04:=S03.trans S4;have qa:=qR r mr _ (Qc (Zck (show j<r.length by omega)));have qc':=qc _ (Qc (Zck hj));have qd:=Zit (D:=((12:Nat):Int)) (E:=(D:Int)) (W8 ∅ ⋯) (qR r mr) qc j ⋯ ⋯;rw[<-W1] at qd;have m1:j*(108*M)<=7*(108*10^50):=Qm ⋯ (Qk _ ml);have d12:12*D<=10^200:=Q0 (Qk 12 dl) ∅;refine ⟨_,rfl,_,rfl,_,rfl,_,rfl,_,rfl,b,_,_,va,rfl,rfl,SqL.of (S04 _ _ hw),(by rw[Qw];exact ZaK hva),_,rfl,_,rfl,ca,_,_,vc,rfl,rfl,SqL.of (S04 _ _ hC),(by rw[Qw];exact ZaK hvc),κ,va,vc,_,_,rfl,na.same S04,nc.same S04,ZcV ∅ ∅ ∅ qa,ZcV d0 (Q0 dl ∅) (Q0 ml ∅) qc',λH5 vp S5 np=>?_⟩;refine ⟨κ,v,vp,_,_,rfl,nv.same S5,np,ZcV (Q9 ∅ d0) d12 (Q0 m1 ∅) qd,ZcV (Q9 ∅ d0) d12 (Q0 (Qk 108 ml) ∅) (QN.mulN qa qc'),λH6 v6 S6 n6=>?_⟩;exact ⟨_,v6,rfl,S4.trans (S5.trans S6),n6⟩
  ·rintro σ H4 ⟨z6,v,rfl,S4,nv⟩;have S24:=S3.trans S4;have q4:=S24 _ _ q2;have lz:=e2.1;rw[Q2,Qa] at lz;refine ⟨_,rfl,.inl ⟨rfl,_,SqL.of q4⟩,_,rfl,tb,zs,_,rfl,rfl,q4,Q8 (show zs.length<1000 by omega) ∅,?_⟩;have O:Off [tb] H4 (upd H4 tb (.lst (zs++[v]))):=ZaZ (Same.refl H4);refine ⟨_,_,_,zs++[v],rfl,Off.same O (S2.trans S24) (λz hz=>by rw[Q6.mp hz];exact ntb),Zaf,?_⟩;rw[W5,hr',Qn];exact (e2.mono λ_ _ n=>(n.same S24).off q4 O).append (.one (nv.off q4 O))
 ·rintro σ H2 ⟨z4,z5,z6,zs,rfl,S2,q2,e2⟩;rw[Q2,lr,Wy] at e2;exact ⟨_,rfl,k H2 tb zs S2 ntb q2 e2⟩
end
section
variable{κ:KX}
theorem ZiU(a b:List (Tn κ))(R:ZZll κ):Zd2 (a++b) R=Zd2 b (Zd2 a R):=List.foldl_append
structure Wek (R:ZZll κ) (n j:Nat) (ls:List Nat):Prop where
 le:ls.length<=n
 lt:∀k<ls.length,ls.getD k 0<j
 inc:∀k k',k<k'->k'<ls.length->ls.getD k 0<ls.getD k' 0
 piv:∀k<ls.length,ent R k (ls.getD k 0)≠0
 pre:∀k<ls.length,∀c<ls.getD k 0,ent R k c=0
 out:∀i,ls.length<=i->i<n->∀c<j,ent R i c=0
theorem Zo8{R:ZZll κ}{n:Nat}:Wek R n 0 []:=⟨Qf _,λk h=>by simp at h,λk k' _ h=>by simp at h,λk h=>by simp at h,λk h=>by simp at h,λi _ _ c hc=>⋯⟩
theorem Wek.low{R:ZZll κ}{n j:Nat}{ls:List Nat}(h:Wek R n j ls){k i:Nat}(hk:k<ls.length)(ki:k<i)(hi:i<n):ent R i (ls.getD k 0)=0:=by
 by_cases q:i<ls.length
 ·exact h.pre i q _ (h.inc k i ki q)
 ·exact h.out i ⋯ hi _ (h.lt k hk)
theorem Wek.skip{R:ZZll κ}{n j:Nat}{ls:List Nat}(h:Wek R n j ls)(z:∀i,ls.length<=i->i<n->ent R i j=0):Wek R n (j+1) ls :=
 ⟨h.le,λk hk=>Nat.lt_succ_of_lt (h.lt k hk),h.inc,h.piv,h.pre,λi a b c hc=>by
  by_cases e:c=j
  ·rw[e];exact z i a b
  ·exact h.out i a b c ⋯⟩
theorem Zl7{n m:Nat}{ls:List Nat}:∀p,p<=ls.length->∀ {R:ZZll κ},R.length=n->Wid m R->Wek R n m ls->∃ts:List (Tn κ),(∀t∈ts,t.ok n)/\Wek (Zd2 ts R) n m ls/\∀k<p,∀i<n,ent (Zd2 ts R) i (ls.getD k 0)=if i=k then 1 else 0
  | 0,_,R,_,_,h=>⟨[],λt ht=>(nomatch ht),h,λk hk=>⋯⟩
  | p+1,hp,R,hn,wd,h=>by
    obtain ⟨ts,ok,hw,hc⟩:=Zl7 p ⋯ hn wd h;have l1:(Zd2 ts R).length=n:=by rw[ZgL,hn]
    have w1:Wid m (Zd2 ts R):=ZgN wd (by rw[hn]; exact ok);generalize hR1:Zd2 ts R=R1 at *;have pn:p<n:=by have:=h.le; omega
    have p0:=hw.piv p ⋯;have lp:=hw.lt p ⋯;have okS:(.scale (p:Int) (Fd.inv (ent R1 p (ls.getD p 0))):Tn κ).ok n:=⟨⟨⋯,⋯⟩,Zjw p0⟩;have eS:∀i c,ent (doT (.scale (p:Int) (Fd.inv (ent R1 p (ls.getD p 0)))) R1) i c=if i=p then Fd.inv (ent R1 p (ls.getD p 0))*ent R1 i c else ent R1 i c:=λi c=>by
      have:=ZhI (R:=R1) (a:=(p:Int)) (c:=Fd.inv (ent R1 p (ls.getD p 0))) (by rw[Qu]; omega) i c;rw[Qu] at this;exact this
    have l2:=ZgK (.scale (p:Int) (Fd.inv (ent R1 p (ls.getD p 0))):Tn κ) R1;have w2:Wid m (doT (.scale (p:Int) (Fd.inv (ent R1 p (ls.getD p 0)))) R1):=Zin w1 (by rw[l1]; exact okS);have hm:=Fd.mul_inv _ p0;have i0:=Zjw p0;generalize hg:Fd.inv (ent R1 p (ls.getD p 0))=g at *;generalize hR2:doT (.scale (p:Int) g) R1=R2 at *;have W2:Wek R2 n m ls:=⟨hw.le,hw.lt,hw.inc,λk hk=>by
        rw[eS]
        split
        · rename_i e; rw[e]; intro z
          have:ent R1 p (ls.getD p 0)*g=1:=hm;have e1:(1:κ.F)=0:=by rw[<-this]; grind
          exact Fd.zne e1.symm
        · exact hw.piv k hk,λk hk c hcc=>by
        rw[eS,hw.pre k hk c hcc]
        split
        · grind
        · rfl,λi a b c hcc=>by
        rw[eS,hw.out i a b c hcc]
        split
        · grind
        · rfl⟩
    have C2:∀k<p,∀i<n,ent R2 i (ls.getD k 0)=if i=k then 1 else 0:=λk hk i hi=>by
      rw[eS,hc k hk i hi]
      split
      · rename_i e; rw[if_neg ⋯]; grind
      · rfl
    have P2:ent R2 p (ls.getD p 0)=1:=by
      rw[eS,if_pos rfl];have:ent R1 p (ls.getD p 0)*g=1:=hm;rw[<-this]; grind
    have inner:∀r,r<=p->∃us:List (Tn κ),(∀t∈us,t.ok n)/\Wek (Zd2 us R2) n m ls/\(∀k<p,∀i<n,ent (Zd2 us R2) i (ls.getD k 0)=if i=k then 1 else 0)/\ent (Zd2 us R2) p (ls.getD p 0)=1/\∀i<r,ent (Zd2 us R2) i (ls.getD p 0)=0:=by
      intro r
      induction r with
      | zero=>intro _; exact ⟨[],λt ht=>(nomatch ht),W2,C2,P2,λi hi=>⋯⟩
      | succ r ih =>
        intro hr;obtain ⟨us,oku,Wu,Cu,Pu,Zu⟩:=ih ⋯;have l3:(Zd2 us R2).length=n:=by rw[ZgL]; omega
        have w3:Wid m (Zd2 us R2):=ZgN w2 (by rw[l2,l1]; exact oku);generalize hR3:Zd2 us R2=R3 at *;have okA:(.add (r:Int) (p:Int) (0-ent R3 r (ls.getD p 0)):Tn κ).ok n:=⟨⟨⋯,⋯⟩,⟨⋯,⋯⟩,⋯⟩;have eA:∀i c,ent (doT (.add (r:Int) (p:Int) (0-ent R3 r (ls.getD p 0))) R3) i c=if i=r then ent R3 i c+(0-ent R3 r (ls.getD p 0))*ent R3 p c else ent R3 i c:=λi c=>by
          have:=Zle (R:=R3) (a:=(r:Int)) (b:=(p:Int)) (c:=0-ent R3 r (ls.getD p 0)) w3 (by rw[Qu]; omega) (by rw[Qu]; omega) i c;rw[Qu,Qu] at this;exact this
        refine ⟨us++[.add (r:Int) (p:Int) (0-ent R3 r (ls.getD p 0))],λt ht=>?_,?_⟩
        · rcases Qx.mp ht with z | z
          · exact oku t z
          · rw[Q6.mp z]; exact okA
        rw[Zk7,hR3];generalize hb:ent R3 r (ls.getD p 0)=b at *;generalize hR4:doT (.add (r:Int) (p:Int) (0-b)) R3=R4 at *;have rl:r<ls.length:=⋯;have pr:∀c,c<ls.getD r 0->ent R3 p c=0:=λc hcc=>Wu.pre p ⋯ c (by have:=Wu.inc r p ⋯ ⋯; omega);refine ⟨⟨Wu.le,Wu.lt,Wu.inc,λk hk=>?_,λk hk c hcc=>?_,λi a b' c hcc=>?_⟩,λk hk i hi=>?_,?_,λi hi=>?_⟩
        · rw[eA]
          split
          · rename_i e
            rw[e,Cu r ⋯ r ⋯,if_pos rfl,Cu r ⋯ p ⋯,if_neg ⋯];intro z;have:(1:κ.F)=0:=by rw[<-z]; grind
            exact Fd.zne this.symm
          · exact Wu.piv k hk
        · rw[eA,Wu.pre k hk c hcc]
          split
          · rename_i e; rw[e] at hcc; rw[pr c hcc]; grind
          · rfl
        · rw[eA,if_neg ⋯]; exact Wu.out i a b' c hcc
        · rw[eA,Cu k hk i hi]
          split
          · rw[Cu k hk p ⋯,if_neg (show ¬p=k by omega)]; grind
          · rfl
        · rw[eA,if_neg ⋯]; exact Pu
        · rw[eA]
          split
          · rename_i e; rw[e,hb,Pu]; grind
          · exact Zu i ⋯
    obtain ⟨us,oku,Wu,Cu,Pu,Zu⟩:=inner p (Q3 _);refine ⟨ts ++ .scale (p:Int) g::us,λt ht=>?_,?_⟩
    · rcases Qx.mp ht with z | z
      · exact ok t z
      · rcases Qe.mp z with z | z
        · rw[z]; exact okS
        · exact oku t z
    rw[ZiU,hR1];show Wek (Zd2 us (doT _ R1)) n m ls/\_;rw[show Zd2 (.scale (p:Int) g::us) R1=Zd2 us (doT (.scale (p:Int) g) R1) from rfl,hR2];refine ⟨Wu,λk hk i hi=>?_⟩
    by_cases e:k=p
    · rw[e]
      by_cases e2:i=p
      · rw[if_pos e2,e2]; exact Pu
      · rw[if_neg e2]
        rcases Nat.lt_or_gt_of_ne e2 with q | q
        · exact Zu i q
        · exact Wu.low ⋯ q hi
    · exact Cu k ⋯ i hi
noncomputable def swM(R:ZZll κ)(q a:Nat):ZZll κ:=(R.set a (R.getD q [])).set q (R.getD a [])
theorem Zo9(R:ZZll κ)(q a:Nat):(swM R q a).length=R.length:=by unfold swM;rw[W6,W6]
theorem ZiV{R:ZZll κ}{q a:Nat}(hq:q<R.length)(ha:a<R.length)(i c:Nat):ent (swM R q a) i c=if i=q then ent R a c else if i=a then ent R q c else ent R i c:=by
 unfold swM ent
 by_cases e:i=q
 ·rw[if_pos e,e,Za0 (by rw[W6];exact hq)]
 ·rw[if_neg e,Zbp (λz=>e z.symm)]
  by_cases e2:i=a
  ·rw[if_pos e2,e2,Za0 ha]
  ·rw[if_neg e2,Zbp (λz=>e2 z.symm)]
theorem Zpa{m:Nat}{R:ZZll κ}{q a:Nat}(hq:q<R.length)(ha:a<R.length)(w:Wid m R):Wid m (swM R q a):=(w.set (w.get hq)).set (w.get ha)
theorem Zpb{m:Nat}{R:ZZll κ}{q a:Nat}(hq:q<R.length)(ha:a<R.length)(u:Nat->κ.F):Ker (swM R q a) R.length m u↔Ker R R.length m u:=by
 have e:∀i,ent (swM R q a) i=if i=q then ent R a else if i=a then ent R q else ent R i:=λi=>by
  funext c
  rw[ZiV hq ha]
  split
  ·rfl
  ·split <;> rfl
 constructor
 ·intro k i hi
  by_cases e1:i=a
  ·have:=k q hq;rw[e,if_pos rfl] at this;rw[e1];exact this
  ·by_cases e2:i=q
   ·have:=k a ha;rw[e,if_neg (λz=>e1 (by rw[e2,z])),if_pos rfl] at this;rw[e2];exact this
   ·have:=k i hi;rw[e,if_neg e2,if_neg e1] at this;exact this
 ·intro k i hi;rw[e]
  split
  ·exact k a ha
  ·split
   ·exact k q hq
   ·exact k i hi
theorem Zpc{R:ZZll κ}{q a:Nat}(hq:q<R.length)(ha:a<R.length){i:Nat}(hi:i<R.length):∃i',i'<R.length/\(swM R q a).getD i []=R.getD i' []:=by
 unfold swM
 by_cases e:i=q
 ·exact ⟨a,ha,by rw[e,Za0 (by rw[W6];exact hq)]⟩
 ·rw[Zbp (λz=>e z.symm)]
  by_cases e2:i=a
  ·exact ⟨q,hq,by rw[e2,Za0 ha]⟩
  ·exact ⟨i,hi,by rw[Zbp (λz=>e2 z.symm)]⟩
noncomputable def elS(R:ZZll κ)(q j i:Nat):ZZlk κ:=List.zipWith (λx y=>ent R q j*x-ent R i j*y) (R.getD i []) (R.getD q [])
theorem Zpd{m:Nat}{R:ZZll κ}{q j i:Nat}(wd:Wid m R)(hq:q<R.length)(hi:i<R.length):(elS R q j i).length=m:=by
 unfold elS;rw[Wx,wd.get hi,wd.get hq,Nat.min_self]
theorem Zl8{m:Nat}{R:ZZll κ}{q j i c:Nat}(wd:Wid m R)(hq:q<R.length)(hi:i<R.length)(hc:c<m):(elS R q j i).getD c 0=ent R q j*ent R i c-ent R i j*ent R q c:=by
 unfold elS;have l1:=wd.get hi;have l2:=wd.get hq;rw[Q1,List.getElem?_zipWith,Q4 (show c<(R.getD i []).length by omega),Q4 (show c<(R.getD q []).length by omega)];show ent R q j*(R.getD i [])[c]-ent R i j*(R.getD q [])[c]=_;have e1:ent R i c=(R.getD i [])[c]:=by unfold ent;rw[Q1 (l:=R.getD i []),Q4 ⋯];rfl
 have e2:ent R q c=(R.getD q [])[c]:=by unfold ent;rw[Q1 (l:=R.getD q []),Q4 ⋯];rfl
 rw[e1,e2]
theorem Zdq{R:ZZll κ}{i:Nat}{f:ZZlk κ}(hi:i<R.length)(i' c:Nat):ent (R.set i f) i' c=if i'=i then f.getD c 0 else ent R i' c:=by
 unfold ent
 by_cases e:i'=i
 ·rw[if_pos e,e,Za0 hi]
 ·rw[if_neg e,Zbp (λz=>e z.symm)]
theorem Zpe{m:Nat}{R:ZZll κ}{q j i:Nat}(wd:Wid m R)(hq:q<R.length)(hi:i<R.length)(ne:i≠q)(p:ent R q j≠0)(u:Nat->κ.F):Ker (R.set i (elS R q j i)) R.length m u↔Ker R R.length m u:=by
 have row:∀i',i'<R.length->Zcp (ent (R.set i (elS R q j i)) i') u m=if i'=i then ent R q j*Zcp (ent R i) u m-ent R i j*Zcp (ent R q) u m else Zcp (ent R i') u m:=λi' _=>by
  by_cases e:i'=i
  ·rw[if_pos e,<-ZcM,<-ZcM];have:∀c,c<m->ent (R.set i (elS R q j i)) i' c=ent R q j*ent R i c+(0-ent R i j)*ent R q c:=λc hc=>by
    rw[Zdq hi,if_pos e,Zl8 wd hq hi hc];grind
   rw[Zgi this,ZgR];have z:Zcp (λj_1=>(0-ent R i j)*ent R q j_1) u m=0-Zcp (λj_1=>ent R i j*ent R q j_1) u m:=by
    rw[ZcM,ZcM];grind
   rw[z];grind
  ·rw[if_neg e];exact Zgi λc _=>by rw[Zdq hi,if_neg e]
 constructor
 ·intro k;have kq:=k q hq;rw[row q hq,if_neg (λz=>ne z.symm)] at kq;intro i' hi'
  by_cases e:i'=i
  ·have:=k i hi;rw[row i hi,if_pos rfl,kq] at this;rw[e];exact ZfA p (by grind)
  ·have:=k i' hi';rw[row i' hi',if_neg e] at this;exact this
 ·intro k i' hi';rw[row i' hi']
  split
  ·rw[k i hi,k q hq];grind
  ·exact k i' hi'
theorem Wek.stepS{m:Nat}{R R2:ZZll κ}{n j a:Nat}{ls:List Nat}(h:Wek R n j ls)(hn:R.length=n)(jm:j<m)(qa:ls.length<=a)(ha:a<n)(p:ent R a j≠0)
    (e1:∀i≤ls.length,∀c<m,ent R2 i c=ent (swM R ls.length a) i c)
    (e2:∀i,ls.length<i->i<n->(∀c<m,ent R2 i c=ent R a j*ent (swM R ls.length a) i c-ent (swM R ls.length a) i j*ent R a c)\/(ent (swM R ls.length a) i j=0/\∀c<m,ent R2 i c=ent (swM R ls.length a) i c)):Wek R2 n (j+1) (ls++[j]):=by
  have g:∀i c,ent (swM R ls.length a) i c=if i=ls.length then ent R a c else if i=a then ent R ls.length c else ent R i c:=ZiV ⋯ ⋯
  have gl:∀k,k<ls.length->(ls++[j]).getD k 0=ls.getD k 0:=λk hk=>by
    rw[Q1,Wh hk,<-Q1]
  have gq:(ls++[j]).getD ls.length 0=j:=by
    rw[Q1,Wo (Q3 _),Wq]; rfl
  have ll:(ls++[j]).length=ls.length+1:=by rw[Qg]; rfl
  refine ⟨⋯,λk hk=>?_,λk k' kk hk=>?_,λk hk=>?_,λk hk c hc=>?_,λi hi hin c hc=>?_⟩
  · by_cases e:k=ls.length
    · rw[e,gq]; omega
    · rw[gl k ⋯]; have:=h.lt k ⋯; omega
  · by_cases e:k'=ls.length
    · rw[e,gq,gl k ⋯]; exact h.lt k ⋯
    · rw[gl k ⋯,gl k' ⋯]; exact h.inc k k' kk ⋯
  · by_cases e:k=ls.length
    · rw[e,gq,e1 _ (Q3 _) j jm,g,if_pos rfl]; exact p
    · have:=h.lt k ⋯
      rw[gl k ⋯,e1 k ⋯ _ ⋯,g,if_neg e,if_neg ⋯]; exact h.piv k ⋯
  · by_cases e:k=ls.length
    · rw[e,gq] at hc
      rw[e,e1 _ (Q3 _) c ⋯,g,if_pos rfl];exact h.out a qa ha c hc
    · rw[gl k ⋯] at hc
      have:=h.lt k ⋯;rw[e1 k ⋯ c ⋯,g,if_neg e,if_neg ⋯]; exact h.pre k ⋯ c hc
  · rw[ll] at hi
    have z1:∀c,c<j->ent (swM R ls.length a) i c=0:=λc hc=>by
      rw[g,if_neg ⋯]
      split
      · exact h.out _ (Q3 _) ⋯ c hc
      · exact h.out _ ⋯ hin c hc
    rcases e2 i ⋯ hin with w | ⟨w0,w⟩
    · rw[w c ⋯]
      by_cases e:c=j
      · rw[e]; grind
      · rw[z1 c ⋯,h.out a qa ha c ⋯]; grind
    · rw[w c ⋯]
      by_cases e:c=j
      · rw[e]; exact w0
      · exact z1 c ⋯
theorem Zni{n m:Nat}{ls:List Nat}{R:ZZll κ}(hn:R.length=n)(wd:Wid m R)(h:Wek R n m ls):∃R':ZZll κ,(∀u,Ker R' n m u↔Ker R n m u)/\Ech R' n m ls 1:=by
 obtain ⟨ts,ok,hw,hc⟩:=Zl7 ls.length (Q3 _) hn wd h;refine ⟨Zd2 ts R,λu=>?_,⟨hw.le,hw.lt,hw.inc,λz=>Fd.zne z.symm,hc,hw.out,hw.pre⟩⟩;have:=ZmF (v:=u) (ts:=ts) wd (by rw[hn];exact ok);rw[hn] at this;exact this
def yM:Nat->Nat
 |0=>10^8
 |q+1=>2*(yM q*yM q)
def yD(q:Nat):Nat:=1728^(2^q)
def RowY(κ:KX)(q:Nat)(f:ZZlk κ):Prop:=∃D M:Nat,0<D/\D<=yD q/\M<=yM q/\∀x∈f,QN κ (D:Int) M x
theorem Zrq(q:Nat):yD q<=yD (q+1):=Q7 ∅ (Q7 ∅ (Nat.le_succ q))
theorem Zl9:∀q,0<yM q
 |0=>by show 0<10^8;decide
 |q+1=>by
  show 0<2*(yM q*yM q);have:=Q9 (Zl9 q) (Zl9 q);omega
theorem Zrr(q:Nat):yM q<=yM (q+1):=by
 show yM q<=2*(yM q*yM q);have:=Ub (yM q) (Zl9 q);omega
theorem RowY.up{q:Nat}{f:ZZlk κ}(h:RowY κ q f):RowY κ (q+1) f:=by
 obtain ⟨D,M,a,b,c,d⟩:=h;exact ⟨D,M,a,Q0 b (Zrq q),Q0 c (Zrr q),d⟩
theorem yB{q:Nat}(h:q<=3):yD q<=10^200/\yM q<=10^500:=by
 obtain rfl|rfl|rfl|rfl:q=0\/q=1\/q=2\/q=3:=⋯
 ·exact ⟨∅,∅⟩
 ·exact ⟨∅,∅⟩
 ·exact ⟨∅,∅⟩
 ·exact ⟨∅,∅⟩
theorem RowY.b1{q:Nat}{f:ZZlk κ}(h:RowY κ q f)(hq:κ = .q->q<=3):∀x∈f,B1 κ x:=λx hx=>by
 cases κ with
 |r p hp=>exact trivial
 |q =>
  obtain ⟨D,M,a,b,c,d⟩:=h;have y:=yB (hq rfl);exact ZcV a (Q0 b y.1) (Q0 c y.2) (d x hx)
theorem RowY.step{q:Nat}{f g:ZZlk κ}(hf:RowY κ q f)(hg:RowY κ q g)(hq:κ = .q->q<=2){a b:κ.F}(ha:a∈g)(hb:b∈f) :
    RowY κ (q+1) (List.zipWith (λx y=>a*x-b*y) f g)/\(∀x∈f,B1 κ (a*x))/\∀y∈g,B1 κ (b*y):=by
  obtain ⟨D,M,d0,d1,m1,qf⟩:=hf;obtain ⟨E,N,e0,e1,n1,qg⟩:=hg;have p1:∀x∈f,QN κ ((D*E:Nat):Int) (M*N) (a*x):=λx hx=>by
    have:=QN.mulN (qg a ha) (qf x hx)
    rwa [Wi E D,Wi N M] at this
  have p2:∀y∈g,QN κ ((D*E:Nat):Int) (M*N) (b*y):=λy hy=>QN.mulN (qf b hb) (qg y hy);have de:0<D*E:=Q9 d0 e0;have l1:D*E<=yD (q+1):=by
    refine Q0 (Qm d1 e1) (Ui ?_);unfold yD;rw[<-Wp,Qq,Nat.mul_two]
  have l2:M*N+M*N<=yM (q+1):=by
    have:=Qm m1 n1;show _<=2*(yM q*yM q);omega
  have b1:∀z:κ.F,QN κ ((D*E:Nat):Int) (M*N) z->B1 κ z:=λz hz=>by
    cases κ with
    | r p hp=>exact trivial
    | q =>
      have y:=yB (q:=q+1) (by have:=hq rfl; omega);exact ZcV de (Q0 l1 y.1) (Q0 (show M*N<=yM (q+1) by omega) y.2) hz
  refine ⟨⟨D*E,M*N+M*N,de,l1,l2,λz hz=>?_⟩,λx hx=>b1 _ (p1 x hx),λy hy=>b1 _ (p2 y hy)⟩;obtain ⟨x,hx,y,hy,rfl⟩:=Zfy hz;exact QN.sub ⋯ (p1 x hx) (p2 y hy)
end
theorem Zpf{b:Bool}{A B:Prop}(h1:b=true->A)(h0:b=false->B):if b=true then A else B:=by
 cases b with
 |true=>exact h1 rfl
 |false=>exact h0 rfl
inductive ZcS (vs:List V) (H:Hp) (Q:VK) (zE:XK):Prop
 |mk (κ:KX) (a:Addr) (rs:ZZla) (G:ZZll κ) (n m:Nat) (_:vs=[.int κ.P,.ref a]) (_:H a=some (.lst (rs.map V.ref))) (_:RowsX κ H rs G) (_:G.length=n) (_:Wid m G) (_:1<=n) (_:n<=100) (_:m<=7) (_:(κ = .q->m<=3)) (_:AllR (QN κ ((1728:Nat):Int) (10^8)) G) (_:∀(H':Hp) (R:ZZll κ) (ls:List Nat),Same H H'->(∀u,Ker R n m u↔Ker G n m u)->Ech R n m ls 1->Q (.int (ls.length:Int)) H'):ZcS vs H Q zE
inductive RkA (κ:KX) (v0:V) (rl:Addr) (H:Hp) (n m:Nat) (G:ZZll κ) (j:Nat) (σ:L2.St) (H3:Hp):Prop
 |mk (z4 z5 z6 z7 z8 z9 z10:Option V) (ds:ZZla) (R:ZZll κ) (ls:List Nat) (_:σ=[some (.int κ.P),some (.ref rl),some v0,some (.int (ls.length:Int)),z4,z5,z6,z7,z8,z9,z10]) (_:NR κ H3 v0 0) (_:Same H H3) (_:H3 rl=some (.lst (ds.map V.ref))) (_:rl∉ds) (_:RowsX κ H3 ds R) (_:R.length=n) (_:Wid m R) (_:Wek R n j ls) (_:ls.length<=j) (_:(∀u,Ker R n m u↔Ker G n m u)) (_:∀i,i<n->RowY κ ls.length (R.getD i [])):RkA κ  v0  rl  H  n m  G  j σ H3
inductive RkB (κ:KX) (v0:V) (rl:Addr) (H:Hp) (n m:Nat) (G:ZZll κ) (ls:List Nat) (j t:Nat) (b1:Addr) (M:ZZll κ) (r:Nat) (σ:L2.St) (H7:Hp):Prop
 |mk (z7 z8 z9 z10:Option V) (es:ZZla) (R':ZZll κ) (_:σ=[some (.int κ.P),some (.ref rl),some v0,some (.int (ls.length:Int)),some (.int (0+(j:Int))),some (.int (t:Int)),some (.ref b1),z7,z8,z9,z10]) (_:NR κ H7 v0 0) (_:Same H H7) (_:H7 rl=some (.lst (es.map V.ref))) (_:rl∉es) (_:es[ls.length]?=some b1) (_:RowsX κ H7 es R') (_:R'.length=n) (_:Wid m R') (_:(∀u,Ker R' n m u↔Ker G n m u)) (_:(∀i,i<n->¬(ls.length<i/\i<ls.length+1+r)->∀c,c<m->ent R' i c=ent M i c)) (_:(∀i,ls.length<i->i<ls.length+1+r->(∀c<m,ent R' i c=ent M ls.length j*ent M i c-ent M i j*ent M ls.length c)\/(ent M i j=0/\∀c<m,ent R' i c=ent M i c))) (_:∀i,i<n->RowY κ (if ls.length<i/\i<ls.length+1+r then ls.length+1 else ls.length) (R'.getD i [])):RkB κ  v0  rl  H  n m  G  ls  j t  b1  M  r σ H7
section
variable{P:Program}{w:World}{K:ZZfg}{mg:ZZmg}{base:Heap}
theorem sc_l_ranked:FnScope ["_law_prime_here","_law_rows","_law_nought","_law_many","_law_j","_law_at","_law_top","_law_i","_law_by","_law_left","_law_right"] ["_law_prime_here","_law_rows"] (Zah Zel):=‹2›
theorem ZiW(h:Here K mg "_law_ranked" Zel) (T:Nm mg) (h_l_make:Has P w K mg base "_law_make" 4 ["_law_prime_here","_law_number"] ZbH) (h_l_times:Has P w K mg base "_law_times" 4 ["_law_prime_here","_law_one","_law_other"] (Zbm λ_ x y=>x*y)) (h_l_minus:Has P w K mg base "_law_minus" 4 ["_law_prime_here","_law_one","_law_other"] (Zbm λ_ x y=>x-y)):Has P w K mg base "_law_ranked" 5 ["_law_prime_here","_law_rows"] ZcS:=by
 refine h.has (λ_ _ F=>F.b2 λ_ _ _ _ _ _ _ _=>rfl) λf fd F=>F.ok sc_l_ranked (λvs H Q E h=>?_) (λcdv A outer s H vs Q E hr h=>?_)
 ·obtain ⟨_,_,_,_,_,_,rfl,_⟩:=h
  rfl
 obtain ⟨κ,a,rs,G,n,m,rfl,hT,rA,lA,wA,n1,n100,m7,m3,qA,k⟩:=h;have nd:=sc_l_ranked.nd;refine ⟨_,(Zac (Zak (i:=2) nd rfl (Or.inl rfl) (Zam h_l_make hr (by rfl) (Zaa (pv 0) (Zaa Zad Zab))))
  (Zac (Zbz (i:=1) ["_law_row"] [] nd rfl rfl rfl (ZaD (pv 1)) (by exact λ_ _ _ _=>(Zaq (i:=0) (show (["_law_row"]:List Str).Nodup by decide +kernel) rfl (Or.inl rfl))) (by exact λ_ _ _ _=>(Zcq (ZdW K rfl) (by rfl) T.list boot_list (Zaa (pv 0) Zab))) trivial)
  (Zac (Zak (i:=3) nd rfl (Or.inl rfl) Zad)
  (Zac (Za2 PassesOwn.never rfl (ZaE (by rfl) T.range (Zaa (Zaj Zai (by rfl) T.len boot_len (Zaa (Zao Zap (pv 1) Zad (λ_ _=>rfl)) Zab)) Zab)) (Zaq (i:=4) nd rfl (Or.inr rfl)) (Zac (Zak (i:=5) nd rfl (Or.inl rfl) (pv 3))
   (Zac (Zbq PassesOwn.never (Zkj (Zar Zef (pv 5) (Zaj Zai (by rfl) T.len boot_len (Zaa (pv 1) Zab)) (Zav _)) (Zh3 (Zar (ZpM hr) (Zao Zap (Zao Zap (pv 1) (pv 5) (λ_ _=>rfl)) (pv 4) (λ_ _=>rfl)) (pv 2) (Zav _)))).pt (Zae (Zak (i:=5) nd rfl (Or.inl rfl) (Zan ZaM (pv 5) Zad))))
   (Zae (ZaB (Zar Zef (pv 5) (Zaj Zai (by rfl) T.len boot_len (Zaa (pv 1) Zab)) (Zav _)) (Zac (Zak (i:=6) nd rfl (Or.inr rfl) (Zao Zap (pv 1) (pv 5) (λ_ _=>rfl)))
    (Zac (Zhh (Zao Zap (pv 1) (pv 3) (λ_ _=>rfl)) (Zhg (pv 1) (pv 5) ZdR))
    (Zac (Zhh (pv 6) (Zhg (pv 1) (pv 3) ZdR))
    (Zac (Za2 PassesOwn.never rfl (Ze8 (by rfl) T.range (Zaa (Zan ZaM (pv 3) Zad) (Zaa (Zaj Zai (by rfl) T.len boot_len (Zaa (pv 1) Zab)) Zab))) (Zaq (i:=7) nd rfl (Or.inl rfl)) (Zac (Zak (i:=8) nd rfl (Or.inr rfl) (Zao Zap (Zao Zap (pv 1) (pv 7) (λ_ _=>rfl)) (pv 4) (λ_ _=>rfl)))
     (Zae (ZaB (Zar (ZpN hr) (pv 8) (pv 2) (Zav _)) (Zac (Zak (i:=9) nd rfl (Or.inr rfl) (ZaU ["_law_one"] [(0,"_law_prime_here"),(6,"_law_top"),(4,"_law_j")] rfl (ZaD (Zao Zap (pv 1) (pv 7) (λ_ _=>rfl))) (by exact λ_ _ _ _=>(Zaq (i:=0) (show (["_law_one","_law_prime_here","_law_top","_law_j"]:List Str).Nodup by decide +kernel) rfl (Or.inl rfl))) (by exact λ_ _ _ _=>(Zam h_l_times hr (by rfl) (Zaa (pv 1) (Zaa (Zao (Zdn K rfl) (pv 2) (pv 3) (λ_ _=>rfl)) (Zaa (pv 0) Zab))))) ⟨⟨rfl,rfl,Or.inl rfl⟩,⟨⟨rfl,rfl,Or.inl rfl⟩,⟨⟨rfl,rfl,Or.inl rfl⟩,trivial⟩⟩⟩))
      (Zac (Zak (i:=10) nd rfl (Or.inr rfl) (ZaU ["_law_one"] [(0,"_law_prime_here"),(8,"_law_by")] rfl (ZaD (pv 6)) (by exact λ_ _ _ _=>(Zaq (i:=0) (show (["_law_one","_law_prime_here","_law_by"]:List Str).Nodup by decide +kernel) rfl (Or.inl rfl))) (by exact λ_ _ _ _=>(Zam h_l_times hr (by rfl) (Zaa (pv 1) (Zaa (pv 2) (Zaa (pv 0) Zab))))) ⟨⟨rfl,rfl,Or.inl rfl⟩,⟨⟨rfl,rfl,Or.inl rfl⟩,trivial⟩⟩))
      (Zae (Zhh (ZaU ["_law_k"] [(0,"_law_prime_here"),(9,"_law_left"),(10,"_law_right")] rfl (ZaE (by rfl) T.range (Zaa (Zaj Zai (by rfl) T.len boot_len (Zaa (pv 6) Zab)) Zab)) (by exact λ_ _ _ _=>(Zaq (i:=0) (show (["_law_k","_law_prime_here","_law_left","_law_right"]:List Str).Nodup by decide +kernel) rfl (Or.inl rfl))) (by exact λ_ _ _ _=>(Zam h_l_minus hr (by rfl) (Zaa (pv 1) (Zaa (Zao (Zdn K rfl) (pv 2) (pv 0) (λ_ _=>rfl)) (Zaa (Zao (Zdn K rfl) (pv 3) (pv 0) (λ_ _=>rfl)) Zab))))) ⟨⟨rfl,rfl,Or.inl rfl⟩,⟨⟨rfl,rfl,Or.inl rfl⟩,⟨⟨rfl,rfl,Or.inl rfl⟩,trivial⟩⟩⟩) (Zhg (pv 1) (pv 7) ZdR))))) Zat))))
    (Zae (Zak (i:=3) nd rfl (Or.inl rfl) (Zan ZaM (pv 3) Zad))))))) Zat)))))
  (Zae (Zal (pv 3))))))),?_⟩
 have lr:=rA.1;have z0:∀i,i<n->RowY κ 0 (G.getD i []):=λi hi=>⟨1728,10^8,∅,∅,∅,λx hx=>qA.getD i x hx⟩;refine ⟨_,rfl,κ,0,0,rfl,ZfW,λH0 v0 S0 n0=>?_⟩;refine ⟨_,rfl,a,rfl,⟨_,SqL.of (S0 _ _ hT)⟩,?_⟩;refine ZaG (K:=K) (a:=a) (xs:=rs.map V.ref) (λi ys H2=>∃cs:ZZla,ys=cs.map V.ref/\Same H0 H2/\RowsX κ H2 cs (G.take i)) (by rw[Q2];omega) ⟨[],rfl,Same.refl H0,by rw[Um];exact .nil⟩ (λi ys H2 _ ⟨as,_,S,_⟩=>SqL.of ((S0.trans S) _ _ hT)) ?_ ?_
 ·rintro i x ys H2 hx hl ⟨cs,rfl,S,ra⟩;obtain ⟨b,hb,rfl⟩:=ZaA hx;obtain ⟨f,hf⟩:=ZaV hb lr;obtain ⟨xs,hxs,fl⟩:=rA.2 i b f hb hf;have S02:=S0.trans S;refine ⟨_,rfl,b,xs,rfl,.inl (SqL.of (S02 _ _ hxs)),λl nl=>?_⟩;have Sl:=Zag nl (.lst xs);refine ⟨cs++[l],by rw[Qn];rfl,S.trans Sl,?_⟩;rw[W5,hf];exact (ra.same Sl).snoc Zaf (fl.mono λ_ _ n=>n.same (S02.trans Sl))
 rintro ys H1 hl ⟨cs,rfl,S1,rc⟩ rl nrl1;have nrl0:H0 rl=none:=S1.free nrl1;have nrl:H rl=none:=S0.free nrl0;have nin:=rc.notin nrl1;rw[Q2,lr,Wy] at rc;have Srl:=Zag nrl1 (.lst (cs.map V.ref));have qrl:=Zaf (H:=H1) (a:=rl) (o:=.lst (cs.map V.ref));generalize upd H1 rl (.lst (cs.map V.ref))=H2 at *;have S2:=S0.trans (S1.trans Srl);have n2:=n0.same (S1.trans Srl);have rc2:=rc.same Srl;clear S1 Srl nrl1 rc hl n0;obtain ⟨a0,x0,g0,hx0,al0⟩:=rc2.get (i:=0) ⋯;have lx0:x0.length=m:=by rw[al0.1];exact wA _ (Ql _)
 refine ⟨_,rfl,rl,_,0,_,rfl,rfl,SqL.of qrl,ZaR (i:=0) g0,a0,_,rfl,.inl (SqL.of hx0),_,rfl,?_,?_,?_⟩ <;> rw[lx0]
 ·omega
 ·omega
 rw[Qu];refine Zbi (lo:=0) (n:=m) (λj σ H3=>RkA κ  v0  rl  H  n m  G  j σ H3) ⟨_,_,_,_,_,_,_,cs,G,[],rfl,n2,S2,qrl,nin,rc2,lA,wA,Zo8,Q3 _,(λu=>Iff.rfl),z0⟩ ?_ ?_
 ·rintro j σ H3 hj ⟨z4,z5,z6,z7,z8,z9,z10,ds,R,ls,rfl,nv3,S3,hR,nid,rx,lR,wR,wk,lj,kr,rz⟩;have ld:=rx.1;have lq:=wk.le;have q2:κ = .q->ls.length<=2:=λe=>by have:=m3 e;omega
  refine ⟨_,rfl,?_⟩;refine ⟨λmm σ H4=>∃t:Nat,mm=n-t/\σ=[some (.int κ.P),some (.ref rl),some v0,some (.int (ls.length:Int)),some (.int (0+(j:Int))),some (.int (t:Int)),z6,z7,z8,z9,z10]/\H3=H4/\ls.length<=t/\t<=n/\∀i,ls.length<=i->i<t->ent R i j=0,⟨_,ls.length,rfl,rfl,rfl,Q3 _,lq,λi a b=>⋯⟩,?_⟩;rintro mm σ H4 ⟨t,rfl,rfl,rfl,qt,tn,zs⟩;refine ⟨_,rfl,_,rfl,rl,_,rfl,.inl (SqL.of hR),_,_,rfl,rfl,_,rfl,?_⟩;rw[Q2,ld,lR];refine Za8 (λz=>?_) (λz=>?_)
  case refine_2 =>
   have et:t=n:=by have:¬(t:Int)<(n:Int):=z;omega
   refine Zdt ?_;refine ⟨_,rfl,_,rfl,rl,_,rfl,.inl (SqL.of hR),_,_,rfl,rfl,_,rfl,?_⟩;rw[Q2,ld,lR];refine Zk6 (show ¬(t:Int)<(n:Int) by omega) ?_;exact ⟨_,_,_,_,_,_,_,ds,R,ls,rfl,nv3,S3,hR,nid,rx,lR,wR,wk.skip (λi a b=>zs i a ⋯),⋯,kr,rz⟩
  have tn':t<n:=by have:(t:Int)<(n:Int):=z;omega
  obtain ⟨b1,ys1,v,e1,e2,e3,e4⟩:=rx.ent wR (i:=t) (j:=j) ⋯ hj;obtain ⟨bb,eb,be⟩:=ZpS e4 nv3;refine ⟨_,rfl,_,rfl,rl,_,_,_,rfl,rfl,SqL.of hR,ZaR e1,_,rfl,b1,_,_,_,rfl,rfl,SqL.of e2,(by rw[Qw];exact ZaK e3),_,rfl,bb,eb,_,rfl,?_⟩;refine Zpf (λzz=>?_) (λzz=>?_)
  ·refine ⟨_,λ_ _ h=>h,?_⟩;refine ⟨_,rfl,_,_,rfl,rfl,?_⟩;exact ⟨_,(by show n-(t+1)<n-t;omega),t+1,rfl,rfl,rfl,⋯,⋯,λi a b=>by
    by_cases e:i=t
    ·rw[e];exact be.mp zz
    ·exact zs i a ⋯⟩
  have pv0:ent R t j≠0:=λq=>by
   have:=be.mpr q;rw[this] at zz;exact absurd zz ∅
  refine ⟨_,rfl,_,rfl,rl,_,rfl,.inl (SqL.of hR),_,_,rfl,rfl,_,rfl,?_⟩;rw[Q2,ld,lR];refine Zfw (show (t:Int)<(n:Int) by omega) ?_;obtain ⟨dq,xq,gq,hxq,alq⟩:=rx.get (i:=ls.length) ⋯;obtain ⟨dt,xt,gt,hxt,alt⟩:=rx.get (i:=t) ⋯;rw[e1] at gt
  cases gt
  refine ⟨_,rfl,_,rfl,rl,_,_,_,rfl,rfl,SqL.of hR,ZaR e1,?_⟩;refine ⟨_,rfl,_,rfl,rl,_,_,_,rfl,rfl,SqL.of hR,ZaR gq,_,rfl,_,rfl,rl,ds.map V.ref,_,t,rfl,rfl,hR,ZgF (by rw[Q2];omega),?_⟩;have O4:Off [rl] H3 (upd H3 rl (.lst ((ds.map V.ref).set t (.ref dq)))):=ZaZ (Same.refl H3);have q4:=Zaf (H:=H3) (a:=rl) (o:=.lst ((ds.map V.ref).set t (.ref dq)));generalize upd H3 rl (.lst ((ds.map V.ref).set t (.ref dq)))=H4 at *;refine ⟨_,rfl,_,rfl,_,rfl,rl,_,_,ls.length,rfl,rfl,q4,ZgF (by rw[W6,Q2];omega),?_⟩;have em:((ds.map V.ref).set t (.ref dq)).set ls.length (.ref b1)=((ds.set t dq).set ls.length b1).map V.ref:=by rw[List.map_set,List.map_set]
  rw[em];have O5:Off [rl] H4 (upd H4 rl (.lst (((ds.set t dq).set ls.length b1).map V.ref))):=ZaZ (Same.refl H4);have q5:=Zaf (H:=H4) (a:=rl) (o:=.lst (((ds.set t dq).set ls.length b1).map V.ref));generalize upd H4 rl (.lst (((ds.set t dq).set ls.length b1).map V.ref))=H5 at *;have O35:Off [rl] H3 H5:=λb o hb q=>O5 b o hb (O4 b o hb q);have S5:Same H H5:=Off.same O35 S3 (λz hz=>by rw[Q6.mp hz];exact nrl);have nv5:=nv3.off hR O35;have nmem:∀i x,ds[i]?=some x->x≠rl:=λi x hx z=>nid (by rw[<-z];exact Qc hx);have rx5:RowsX κ H5 ((ds.set t dq).set ls.length b1) (swM R ls.length t):=by
   have rb:=rx.off nid hR O35;have eq1:R.getD ls.length []=R[ls.length]'⋯:=by rw[Q1,Q4 ⋯];rfl
   have eq2:R.getD t []=R[t]'⋯:=by rw[Q1,Q4 ⋯];rfl
   unfold swM;rw[eq1,eq2];exact (rb.set t (O35 _ _ (λz=>nmem _ _ gq (Q6.mp z)) hxq) (alq.mono λ_ _ n=>n.off hR O35)).set ls.length (O35 _ _ (λz=>nmem _ _ e1 (Q6.mp z)) hxt) (alt.mono λ_ _ n=>n.off hR O35)
  have ni5:rl∉(ds.set t dq).set ls.length b1:=λz=>by
   rcases List.mem_or_eq_of_mem_set z with y|y
   ·rcases List.mem_or_eq_of_mem_set y with y|y
    ·exact nid y
    ·exact nmem _ _ gq y.symm
   ·exact nmem _ _ e1 y.symm
  have gm:((ds.set t dq).set ls.length b1)[ls.length]?=some b1:=by
   rw[List.getElem?_set_self (by rw[W6];omega)]
  have lM:(swM R ls.length t).length=n:=by rw[Zo9,lR]
  have wM:Wid m (swM R ls.length t):=Zpa ⋯ ⋯ wR;have kM:∀u,Ker (swM R ls.length t) n m u↔Ker G n m u:=λu=>by
   have:=Zpb (m:=m) (R:=R) (q:=ls.length) (a:=t) ⋯ ⋯ u;rw[lR] at this;exact this.trans (kr u)
  have zM:∀i,i<n->RowY κ ls.length ((swM R ls.length t).getD i []):=λi hi=>by
   obtain ⟨i',hi',e⟩:=Zpc (R:=R) (q:=ls.length) (a:=t) ⋯ ⋯ (i:=i) ⋯;rw[e];exact rz i' ⋯
  have tq:∀c,ent (swM R ls.length t) ls.length c=ent R t c:=λc=>by rw[ZiV ⋯ ⋯,if_pos rfl]
  have lmd:((ds.set t dq).set ls.length b1).length=n:=by rw[W6,W6];omega
  generalize hM:swM R ls.length t=M at *;generalize (ds.set t dq).set ls.length b1=es0 at *;clear O4 q4 O5 O35;refine ⟨_,rfl,_,_,rfl,rfl,_,rfl,rl,_,rfl,.inl (SqL.of q5),_,_,rfl,?_,?_⟩
  ·rw[Q2,lmd];exact ⟨⋯,⋯,⋯,⋯⟩
  rw[Q2,lmd];refine Zbi (lo:=(ls.length:Int)+1) (n:=((n:Int)-((ls.length:Int)+1)).toNat) (λr σ H7=>RkB κ  v0  rl  H  n m  G  ls  j t  b1  M  r σ H7) ⟨_,_,_,_,es0,M,rfl,nv5,S5,q5,ni5,gm,rx5,lM,wM,kM,(λi hi _ c hc=>rfl),(λi a b=>⋯),λi hi=>by rw[if_neg ⋯];exact zM i hi⟩ ?_ ?_
  ·rintro r σ H7 hr7 ⟨z7',z8',z9',z10',es,R',rfl,nv7,S7,q7,ni7,g7,rx7,l7,w7,k7,en7,eo7,rz7⟩;have le7:=rx7.1;obtain ⟨i,ei⟩:∃i,i=ls.length+1+r:=⟨_,rfl⟩;have hi:i<n:=⋯;have ej:((ls.length:Int)+1+(r:Int))=((i:Nat):Int):=⋯;obtain ⟨c1,xs1,v1,f1,f2,f3,f4⟩:=rx7.ent w7 (i:=i) (j:=j) ⋯ hj;obtain ⟨gi,hgi⟩:∃gi,R'[i]?=some gi:=⟨R'[i]'⋯,Q4 ⋯⟩;obtain ⟨gq',hgq⟩:∃gq,R'[ls.length]?=some gq:=⟨R'[ls.length]'⋯,Q4 ⋯⟩;obtain ⟨xs1',hx1',al1⟩:=rx7.2 i c1 gi f1 hgi;rw[f2] at hx1'
   cases hx1'
   obtain ⟨xs2,h2',al2⟩:=rx7.2 ls.length b1 gq' g7 hgq;have lgi:=w7 gi (Qc hgi);have lgq:=w7 gq' (Qc hgq);have lx1:=al1.1;have lx2:=al2.1;have eqj:∀c,c<m->ent R' ls.length c=ent M ls.length c:=λc hc=>en7 _ ⋯ ⋯ c hc;have eij:∀c,c<m->ent R' i c=ent M i c:=λc hc=>en7 _ hi ⋯ c hc;have gdi:R'.getD i []=gi:=Zcc hgi;have gdq:R'.getD ls.length []=gq':=Zcc hgq;obtain ⟨bb,eb,be⟩:=ZpS f4 nv7;refine ⟨_,rfl,_,rfl,rl,_,_,_,rfl,rfl,SqL.of q7,(by rw[ej];exact ZaR f1),_,rfl,c1,_,_,_,rfl,rfl,SqL.of f2,(by rw[Qw];exact ZaK f3),?_⟩;refine ⟨_,rfl,_,rfl,bb,eb,_,rfl,?_⟩
   cases bb with
   |true =>
    refine Zdt ?_;have z:=be.mp rfl;refine ⟨_,_,_,_,es,R',rfl,nv7,S7,q7,ni7,g7,rx7,l7,w7,k7,(λi' a b=>en7 i' a ⋯),(λi' a b=>?_),λi' hi'=>?_⟩
    ·by_cases e:i'=i
     ·rw[e];exact .inr ⟨by rw[<-eij j hj];exact z,eij⟩
     ·exact eo7 i' a ⋯
    ·have:=rz7 i' hi'
     by_cases q:ls.length<i'/\i'<ls.length+1+r
     ·rw[if_pos q] at this;rw[if_pos ⋯];exact this
     ·rw[if_neg q] at this
      split
      ·exact this.up
      ·exact this
   |false =>
    refine ZjK ?_;have zi:=rz7 i hi;rw[if_neg ⋯,gdi] at zi;have zq:=rz7 ls.length ⋯;rw[if_neg ⋯,gdq] at zq;have ha:ent R' ls.length j∈gq':=by rw[<-gdq];exact Zlf w7 ⋯ hj
    have hb:ent R' i j∈gi:=by rw[<-gdi];exact Zlf w7 ⋯ hj
    obtain ⟨zst,bxl,byr⟩:=RowY.step zi zq q2 ha hb;have b1i:=zi.b1 (λe=>by have:=q2 e;omega);have b1q:=zq.b1 (λe=>by have:=q2 e;omega);obtain ⟨b1',ysq,vq,m1,m2,m3',m4⟩:=rx7.ent w7 (i:=ls.length) (j:=j) ⋯ hj;rw[g7] at m1
    cases m1
    refine ⟨_,rfl,_,rfl,rl,_,_,_,rfl,rfl,SqL.of q7,(by rw[ej];exact ZaR f1),c1,rfl,⟨_,SqL.of f2⟩,?_⟩;refine ZaG (K:=K) (a:=c1) (xs:=xs1) (λq zs H8=>Same H7 H8/\AllG (NR κ H8) zs ((gi.map λx=>ent R' ls.length j*x).take q)) ⋯ ⟨Same.refl H7,by rw[Um];exact .nil⟩ (λq zs H8 _ c=>SqL.of (c.1 _ _ f2)) ?_ ?_
    ·rintro q u zs H8 hu _ ⟨S8,az⟩;obtain ⟨x,hx,nx⟩:=al1.get hu;refine ⟨_,rfl,_,rfl,_,rfl,b1,_,_,_,rfl,rfl,SqL.of (S8 _ _ m2),(by rw[Qw];exact ZaK m3'),_,rfl,κ,vq,u,_,x,rfl,m4.same S8,nx.same S8,b1q _ ha,b1i x (Qc hx),λH9 w9 S9 n9=>⟨S8.trans S9,?_⟩⟩;rw[W5,Qb,hx];exact (az.mono λ_ _ n=>n.same S9).append (.one n9)
    rintro zs1 H8 _ ⟨S8,az1⟩ La nLa;rw[Wt (by rw[Q2];omega)] at az1;have SL:=Zag nLa (.lst zs1);have qL:=Zaf (H:=H8) (a:=La) (o:=.lst zs1);generalize upd H8 La (.lst zs1)=H9 at *;have S79:=S8.trans SL;refine ⟨_,rfl,b1,rfl,⟨_,SqL.of (S79 _ _ h2')⟩,?_⟩;refine ZaG (K:=K) (a:=b1) (xs:=xs2) (λq zs H10=>Same H9 H10/\AllG (NR κ H10) zs ((gq'.map λy=>ent R' i j*y).take q)) ⋯ ⟨Same.refl H9,by rw[Um];exact .nil⟩ (λq zs H10 _ c=>SqL.of ((S79.trans c.1) _ _ h2')) ?_ ?_
    ·rintro q u zs H10 hu _ ⟨S10,az⟩;obtain ⟨y,hy,ny⟩:=al2.get hu;have S710:=S79.trans S10;refine ⟨_,rfl,_,rfl,_,rfl,κ,v1,u,_,y,rfl,f4.same S710,ny.same S710,b1i _ hb,b1q y (Qc hy),λH11 w11 S11 n11=>⟨S10.trans S11,?_⟩⟩;rw[W5,Qb,hy];exact (az.mono λ_ _ n=>n.same S11).append (.one n11)
    rintro zs2 H10 _ ⟨S10,az2⟩ Ra nRa;rw[Wt (by rw[Q2];omega)] at az2;have SR:=Zag nRa (.lst zs2);have qR:=Zaf (H:=H10) (a:=Ra) (o:=.lst zs2);generalize upd H10 Ra (.lst zs2)=H11 at *;have S911:=S10.trans SR;have S711:=S79.trans S911;have qL11:=S911 _ _ qL;have az1':=az1.mono λ_ _ n=>n.same (SL.trans S911);have az2':=az2.mono λ_ _ n=>n.same SR;have lz1:=az1.1;have lz2:=az2.1;rw[Q2] at lz1 lz2;refine ⟨_,rfl,b1,_,rfl,.inl (SqL.of (S711 _ _ h2')),(xs2.length:Int),rfl,⋯,⋯,?_⟩;rw[Qu];refine Zbc (lo:=0) (n:=xs2.length) (λq zs H12=>Same H11 H12/\AllG (NR κ H12) zs ((List.zipWith (λx y=>ent R' ls.length j*x-ent R' i j*y) gi gq').take q)) ⋯ ⟨Same.refl H11,by rw[Um];exact .nil⟩ ?_ ?_
    ·rintro q zs H12 hq _ ⟨S12,az⟩;obtain ⟨u,hu,nu⟩:=az1'.get' (i:=q) (by rw[Q2];omega);obtain ⟨v,hv,nv⟩:=az2'.get' (i:=q) (by rw[Q2];omega);rw[List.getElem_map] at nu nv;have mx:gi[q]'⋯∈gi:=Ql _;have my:gq'[q]'⋯∈gq':=Ql _;refine ⟨_,rfl,_,rfl,_,rfl,La,_,_,u,rfl,rfl,SqL.of (S12 _ _ qL11),(by rw[Qw];exact ZaK hu),_,rfl,_,rfl,Ra,_,_,v,rfl,rfl,SqL.of (S12 _ _ qR),(by rw[Qw];exact ZaK hv),κ,u,v,_,_,rfl,nu.same S12,nv.same S12,bxl _ mx,byr _ my,λH14 w14 S14 n14=>⟨S12.trans S14,?_⟩⟩;rw[W5,List.getElem?_zipWith,Q4 (show q<gi.length by omega),Q4 (show q<gq'.length by omega)];exact (az.mono λ_ _ n=>n.same S14).append (.one n14)
    rintro zs H12 _ ⟨S12,az⟩ D nD8;have lz:(List.zipWith (λx y=>ent R' ls.length j*x-ent R' i j*y) gi gq').length=m:=by rw[Wx];omega
    rw[Wt ⋯] at az;have S712:=S711.trans S12;have nD7:=S712.free nD8;have nDl:D≠rl:=λz=>by rw[z,q7] at nD7;cases nD7
    have SD:=Zag nD8 (.lst zs);have qD:=Zaf (H:=H12) (a:=D) (o:=.lst zs);generalize upd H12 D (.lst zs)=H13 at *;have S713:=S712.trans SD;have q9:=S713 _ _ q7;refine ⟨_,rfl,_,rfl,rl,es.map V.ref,_,i,rfl,rfl,q9,(by rw[ej];exact ZgF (by rw[Q2];omega)),?_⟩;have O10:Off [rl] H13 (upd H13 rl (.lst ((es.map V.ref).set i (.ref D)))):=ZaZ (Same.refl H13);have eR:elS R' ls.length j i=List.zipWith (λx y=>ent R' ls.length j*x-ent R' i j*y) gi gq':=by
     unfold elS;rw[gdi,gdq]
    have nzq:ent R' ls.length j≠0:=by rw[eqj j hj,tq];exact pv0
    have kE:∀u,Ker (R'.set i (elS R' ls.length j i)) n m u↔Ker G n m u:=λu=>by
     have:=Zpe (j:=j) w7 (show ls.length<R'.length by omega) (show i<R'.length by omega) ⋯ nzq u;rw[l7] at this;exact this.trans (k7 u)
    refine ⟨_,_,_,_,es.set i D,R'.set i (elS R' ls.length j i),rfl,(nv7.same S713).off q9 O10,Off.same O10 (S7.trans S713) (λz hz=>by rw[Q6.mp hz];exact nrl),by rw[Zaf,List.map_set],(λz=>?_),?_,?_,by rw[W6];exact l7,?_,kE,(λi' a b c hc=>?_),(λi' a b=>?_),λi' hi'=>?_⟩
    ·rcases List.mem_or_eq_of_mem_set z with q|q
     ·exact ni7 q
     ·exact nDl q.symm
    ·rw[List.getElem?_set_ne ⋯];exact g7
    ·refine ((rx7.same S713).off ni7 q9 O10).set i (O10 _ _ (λz=>nDl (Q6.mp z)) qD) ?_;rw[eR];exact az.mono λ_ _ n=>(n.same SD).off q9 O10
    ·intro f' hf';rcases List.mem_or_eq_of_mem_set hf' with q|q
     ·exact w7 f' q
     ·rw[q];exact Zpd w7 ⋯ ⋯
    ·rw[Zdq ⋯,if_neg ⋯];exact en7 i' a ⋯ c hc
    ·by_cases e:i'=i
     ·refine .inl λc hc=>?_;rw[e,Zdq ⋯,if_pos rfl,Zl8 w7 ⋯ ⋯ hc,eqj j hj,eij c hc,eij j hj,eqj c hc]
     ·rcases eo7 i' a ⋯ with y|⟨y0,y⟩
      ·exact .inl λc hc=>by rw[Zdq ⋯,if_neg e];exact y c hc
      ·exact .inr ⟨y0,λc hc=>by rw[Zdq ⋯,if_neg e];exact y c hc⟩
    ·by_cases e:i'=i
     ·rw[e,Za0 ⋯,if_pos ⋯,eR];exact zst
     ·rw[Zbp (Ne.symm e)];have:=rz7 i' hi'
      by_cases q:ls.length<i'/\i'<ls.length+1+r
      ·rw[if_pos q] at this;rw[if_pos ⋯];exact this
      ·rw[if_neg q] at this;rw[if_neg ⋯];exact this
  ·rintro σ H7 ⟨z7',z8',z9',z10',es,R',rfl,nv7,S7,q7,ni7,g7,rx7,l7,w7,k7,en7,eo7,rz7⟩;refine ⟨_,rfl,_,_,rfl,rfl,?_⟩;have stp:Wek R' n (j+1) (ls++[j]):=by
    refine Wek.stepS (m:=m) wk lR hj qt tn' pv0 (λi hi c hc=>?_) (λi hi hin=>?_)
    ·rw[hM];exact en7 i ⋯ ⋯ c hc
    ·rw[hM];have:=eo7 i hi ⋯;rw[tq] at this;rcases this with y|y
     ·exact .inl λc hc=>by rw[y c hc,tq]
     ·exact .inr y
   refine ⟨some (.int (0+(j:Int))),some (.int (t:Int)),some (.ref b1),z7',z8',z9',z10',es,R',ls++[j],?_,nv7,S7,q7,ni7,rx7,l7,w7,stp,by rw[Qg];exact Nat.succ_le_succ lj,k7,λi hi=>?_⟩
   ·rw[show ((ls++[j]).length:Int)=(ls.length:Int)+1 by rw[Qg];rfl]
    rfl
   ·rw[show (ls++[j]).length=ls.length+1 by rw[Qg];rfl];have:=rz7 i hi
    split at this
    ·exact this
    ·exact this.up
 ·rintro σ H3 ⟨z4,z5,z6,z7,z8,z9,z10,ds,R,ls,rfl,nv3,S3,hR,nid,rx,lR,wR,wk,lj,kr,rz⟩;obtain ⟨R',k',ech⟩:=Zni lR wR wk;exact ⟨_,rfl,k H3 R' ls S3 (λu=>(k' u).trans (kr u)) ech⟩
end
section
variable{P:Program}{w:World}{K:ZZfg}{mg:ZZmg}{base:Heap}{CF CR:Addr}
theorem sc_l_spoil:FnScope ["_law_thing","_law_one"] ["_law_thing"] (Zah ZdX):=‹2›
theorem Zqs(h:Here K mg "_law_spoil" ZdX):Has P w K mg base "_law_spoil" 0 ["_law_thing"] spF :=
 h.has (λ_ _ F=>F.b1 λ_ _ _ _ _ _ _=>rfl) λf fd F=>⟨λ_ _ _ _ z=>z.elim,λ_ _ _ _ _ _ _ _ _ _ _ _ _ z=>z.elim⟩
theorem ZeI{j:Nat}{sp0:Sp}(h:Here K mg "_law_spoil" ZdX) (T:Nm mg) (h_l_spoil:Has P w K mg base "_law_spoil" j ["_law_thing"] sp0):Has P w K mg base "_law_spoil" (j+1) ["_law_thing"] (Zgf K sp0):=by
  refine h.has (λ_ _ F=>F.b1 λ_ _ _ _ _ _ _=>rfl) λf fd F=>F.ok sc_l_spoil (λvs H Q E h=>?_) (λcdv A outer s H vs Q E hr h=>?_)
  · obtain ⟨_,rfl,_⟩:=h
    rfl
  have nd:=sc_l_spoil.nd;obtain ⟨v,rfl,⟨i,rfl,k⟩ | ⟨t,xs,Pv,rfl,ht,p0,pt,ps_,k⟩ | ⟨t,xs,Pv,rfl,ht,lx,p0,pt,ps_,k⟩⟩:=h
  · refine ⟨_,(Zac (ZaB (Zcw (ZaF (Zaj Zaw (by rfl) T.isinstance boot_isinstance (Zaa (pv 0) (Zaa (ZcX (by rfl) T.tuple boot_tuple) Zab)))) (ZcT (ZaF (Zaj Zaw (by rfl) T.isinstance boot_isinstance (Zaa (pv 0) (Zaa (ZcX (by rfl) T.list boot_list) Zab)))))).pt (Zae (Za2 PassesOwn.never rfl (ZaD (pv 0)) (Zaq (i:=1) nd rfl (Or.inl rfl)) (Zae (ZaT (Zam h_l_spoil hr (by rfl) (Zaa (pv 1) Zab)))))) Zat)
      (Zae (ZaB (ZaF (Zaj Zaw (by rfl) T.isinstance boot_isinstance (Zaa (pv 0) (Zaa (ZcX (by rfl) T.list boot_list) Zab)))) (Zae (ZaT (ZeU PySem.F.plainAttrs_list PySem.F.slot_list_append PySem.F.type_list_append Za6 (pv 0) (Zaa ZiY Zab)))) Zat))),?_⟩
    refine ⟨_,rfl,_,_,_,_,rfl,.of (.int i),.ty (ZgU K),_,rfl,Zdt ?_⟩;refine ⟨_,rfl,_,_,_,_,rfl,.of (.int i),.ty (ZeR K),_,rfl,Zdt ?_⟩;refine ⟨_,rfl,_,_,_,_,rfl,.of (.int i),.ty (ZeR K),_,rfl,Zdt ?_⟩;exact k
  · refine ⟨_,(Zac (ZaB (Zcw (ZaF (Zaj Zaw (by rfl) T.isinstance boot_isinstance (Zaa (pv 0) (Zaa (ZcX (by rfl) T.tuple boot_tuple) Zab)))) (ZcT (ZaF (Zaj Zaw (by rfl) T.isinstance boot_isinstance (Zaa (pv 0) (Zaa (ZcX (by rfl) T.list boot_list) Zab)))))).pt (Zae (Za2 PassesOwn.never rfl (Zpt (pv 0)) (Zaq (i:=1) nd rfl (Or.inl rfl)) (Zae (ZaT (Zam h_l_spoil hr (by rfl) (Zaa (pv 1) Zab)))))) Zat)
      (Zae (ZaB (ZaF (Zaj Zaw (by rfl) T.isinstance boot_isinstance (Zaa (pv 0) (Zaa (ZcX (by rfl) T.list boot_list) Zab)))) (Zae (ZaT (ZeU PySem.F.plainAttrs_list PySem.F.slot_list_append PySem.F.type_list_append Za6 (pv 0) (Zaa ZiY Zab)))) Zat))),?_⟩
    refine ⟨_,rfl,_,_,_,_,rfl,.of (.tup ht),.ty (Zb8 K _),_,rfl,ZjK ?_⟩;refine ⟨_,rfl,t,rfl,⟨_,SqT.of ht⟩,?_⟩;refine Zn7 (xs:=xs) (λi σ H2=>∃z1:Option V,σ=[some (.ref t),z1]/\Pv i H2) ⟨_,rfl,p0⟩ ?_ ?_ ?_
    · rintro i σ H2 hi ⟨z1,rfl,p⟩
      exact SqT.of (pt i H2 hi p)
    · rintro i x σ H2 hx ⟨z1,rfl,p⟩
      exact ⟨_,rfl,ps_ i x H2 _ hx p λ_ H3 q=>⟨_,rfl,q⟩⟩
    · rintro σ H2 ⟨z1,rfl,p⟩
      refine ⟨_,rfl,_,_,_,_,rfl,.of (.tup (pt _ H2 (Q3 _) p)),.ty (ZfZ K),_,rfl,Zdt ?_⟩;exact k H2 p
  · refine ⟨_,(Zac (ZaB (Zcw (ZaF (Zaj Zaw (by rfl) T.isinstance boot_isinstance (Zaa (pv 0) (Zaa (ZcX (by rfl) T.tuple boot_tuple) Zab)))) (ZcT (ZaF (Zaj Zaw (by rfl) T.isinstance boot_isinstance (Zaa (pv 0) (Zaa (ZcX (by rfl) T.list boot_list) Zab)))))).pt (Zae (Za2 PassesOwn.never rfl (ZaD (pv 0)) (Zaq (i:=1) nd rfl (Or.inl rfl)) (Zae (ZaT (Zam h_l_spoil hr (by rfl) (Zaa (pv 1) Zab)))))) Zat)
      (Zae (ZaB (ZaF (Zaj Zaw (by rfl) T.isinstance boot_isinstance (Zaa (pv 0) (Zaa (ZcX (by rfl) T.list boot_list) Zab)))) (Zae (ZaT (ZeU PySem.F.plainAttrs_list PySem.F.slot_list_append PySem.F.type_list_append Za6 (pv 0) (Zaa ZiY Zab)))) Zat))),?_⟩
    refine ⟨_,rfl,_,_,_,_,rfl,.of (.lst ht),.ty (Zf0 K),_,rfl,Zdt ?_⟩;refine ⟨_,rfl,_,_,_,_,rfl,.of (.lst ht),.ty (Zb8 K _),_,rfl,ZjK ?_⟩;refine ⟨_,rfl,t,rfl,⟨_,SqL.of ht⟩,?_⟩;refine ZbV (xs:=xs) (λi σ H2=>∃z1:Option V,σ=[some (.ref t),z1]/\Pv i H2) ⟨_,rfl,p0⟩ ?_ ?_ ?_
    · rintro i σ H2 hi ⟨z1,rfl,p⟩
      exact SqL.of (pt i H2 hi p)
    · rintro i x σ H2 hx ⟨z1,rfl,p⟩
      exact ⟨_,rfl,ps_ i x H2 _ hx p λ_ H3 q=>⟨_,rfl,q⟩⟩
    · rintro σ H2 ⟨z1,rfl,p⟩
      have h2:=pt _ H2 (Q3 _) p;refine ⟨_,rfl,_,_,_,_,rfl,.of (.lst h2),.ty (Zb8 K _),_,rfl,ZjK ?_⟩;refine ⟨_,rfl,.inl ⟨rfl,_,SqL.of h2⟩,t,xs,.non,rfl,rfl,h2,Q8 (show xs.length<1000 by omega) ∅,?_⟩;exact k H2 p
end
def Zrs{κ:KX}(f:ZZlk κ):PyData:=.list (f.map κ.D)
theorem ColL.rp{κ:KX}{H:Hp}{a:Addr}{xs:List V}{f:ZZlk κ}(h:ColL κ H a xs f):Rp H 2 (.ref a) (Zrs f):=ZhF h.l (h.al.all2 λ_ _ n=>n.rp)
section
variable{κ:KX}
noncomputable def smL(A:ZZll κ)(m:Nat)(v f:ZZlk κ)(k i:Nat):ZZlk κ:=(List.range m).map λj=>Rg.Sg (λt=>f.getD t 0*Rg.im (ent A) m (vF v) t j) (if j<i then k+1 else k)
theorem Zcn(A:ZZll κ)(m:Nat)(v f:ZZlk κ)(k i:Nat):(smL A m v f k i).length=m:=Zcl _ _
theorem Zrt(A:ZZll κ)(m:Nat)(v f:ZZlk κ):smL A m v f 0 0=List.replicate m 0:=Zce (by rw[Zcn,Wa]) λj hj=>by
 rw[Zcn] at hj;refine (Zbb _ hj).trans ?_;rw[if_neg ⋯,Q1,Uj,if_pos hj]
 rfl
theorem Zpg(A:ZZll κ)(m:Nat)(v f:ZZlk κ)(k:Nat):smL A m v f k m=smL A m v f (k+1) 0:=Zce (by rw[Zcn,Zcn]) λj hj=>by
 rw[Zcn] at hj;refine (Zbb _ hj).trans (Eq.trans ?_ (Zbb _ hj).symm);rw[if_pos hj,if_neg ⋯]
theorem Zn3{A:ZZll κ}{m:Nat}{v f:ZZlk κ}{k i:Nat}(hi:i<m):(smL A m v f k i).getD i 0=Rg.Sg (λt=>f.getD t 0*Rg.im (ent A) m (vF v) t i) k:=by
 refine (Zbb _ hi).trans ?_;rw[if_neg ⋯]
theorem Znj{A:ZZll κ}{m:Nat}{v f:ZZlk κ}{k i:Nat}(hi:i<m):(smL A m v f k i).set i ((smL A m v f k i).getD i 0+f.getD k 0*Rg.im (ent A) m (vF v) k i)=smL A m v f k (i+1):=by
 refine List.ext_getElem? λj=>?_;rw[Zn3 hi];unfold smL;rw[Ux,Zcl]
 by_cases e:i=j
 ·rw[if_pos e,if_pos hi,<-e,Qb,Wf hi];show some _=some (Rg.Sg _ (if i<i+1 then _ else _));rw[if_pos ⋯]
  rfl
 ·rw[if_neg e,Qb,Qb]
  by_cases hj:j<m
  ·rw[Wf hj];show some (Rg.Sg _ (if j<i then _ else _))=some (Rg.Sg _ (if j<i+1 then _ else _))
   by_cases q:j<i
   ·rw[if_pos q,if_pos ⋯]
   ·rw[if_neg q,if_neg ⋯]
  ·rw[U3 (by rw[Qs];omega)];rfl
theorem Zph{A:ZZll κ}{m n:Nat}{v f:ZZlk κ}(lp:Lpo A m v f n):smL A m v f (n+1) 0=List.replicate m 0:=Zce (by rw[Zcn,Wa]) λj hj=>by
 rw[Zcn] at hj;refine (Zbb _ hj).trans ?_;rw[if_neg ⋯,lp.z j hj,Q1,Uj,if_pos hj]
 rfl
theorem Zqt{A:ZZll κ}{m n:Nat}{v f:ZZlk κ}(lp:Lpo A m v f n)(m7:m<=7)(m3:κ = .q->m<=3)(qA:AllR (Q12 κ) A)(qv:∀x∈v,Q12 κ x):(∀k,B1 κ (f.getD k 0))/\(∀k i,k<=n->B1 κ (Rg.im (ent A) m (vF v) k i))/\(∀k i,k<=n->B1 κ (f.getD k 0*Rg.im (ent A) m (vF v) k i))/\∀k i,k<=n+1->B1 κ (Rg.Sg (λt=>f.getD t 0*Rg.im (ent A) m (vF v) t i) k):=by
 cases κ with
 |r p hp=>exact ⟨λ_=>trivial,λ_ _ _=>trivial,λ_ _ _=>trivial,λ_ _ _=>trivial⟩
 |q =>
  obtain ⟨D,M,d0,dl,ml,qf⟩:=lp.s;have n3:n<=3:=by have:=lp.nm;have:=m3 rfl;omega
  have up:2^2100<2^3000:=Nat.pow_lt_pow_right ∅ ∅;have a1:=λk=>ZeD (κ:=.q) qf k;have a2:∀k i,k<=n->QN .q ((12^4:Nat):Int) (10^15) (Rg.im (ent A) m (vF v) k i):=λk i hk=>by
   have q:=Zj8 (κ:=.q) (a:=ent A) (v:=vF v) m7 (λi j=>Zdw qA i j) (λi=>ZeD qv i) k i;have u:=q.upN (Qd ∅) (c:=12^(3-k)) (Qd ∅);rw[<-Wp,show k+1+(3-k)=4 by omega] at u;refine u.mono ?_;obtain rfl|rfl|rfl|rfl:k=0\/k=1\/k=2\/k=3:=⋯
   ·decide
   ·decide
   ·decide
   ·decide
  have a3:=λk i (hk:k<=n)=>QN.mulN (a1 k) (a2 k i hk);have dd:0<D*12^4:=Q9 d0 ∅;have big:D*12^4<2^3000:=Q8 (Nat.mul_lt_mul_of_pos_right dl ∅) ‹4›;have bigM:4*(M*10^15)<2^3000:=Q5 (Qk 4 (Qp _ (Uh ml))) ‹4›;have s:∀ {k i},k<=n+1->QN .q ((D*12^4:Nat):Int) (k*(M*10^15)) (Rg.Sg (λt=>f.getD t 0*Rg.im (ent A) m (vF v) t i) k):=fun {k i} hk=>Zgl (κ:=.q) ⋯ k λt ht=>a3 t i ⋯
  refine ⟨λk=>(a1 k).b1 ⋯ (by rw[Qj];omega) ⋯,λk i hk=>(a2 k i hk).b1 ∅ ‹4› ‹4›,λk i hk=>(a3 k i hk).b1 ⋯ (by rw[Qj];exact big) ⋯,λk i hk=>(s (i:=i) hk).b1 ⋯ (by rw[Qj];exact big) ?_⟩;exact Q5 (Qp _ (show k<=4 by omega)) bigM
theorem Zqu{A:ZZll κ}{m n:Nat}{v:ZZlk κ}(m7:m<=7)(m3:κ = .q->m<=3)(nm:n<=m)(qA:AllR (Q12 κ) A)(qv:∀x∈v,Q12 κ x):AllR (QN κ ((1728:Nat):Int) (10^8)) ((List.range n).map (imL A m v)):=λf hf x hx=>by
 obtain ⟨k,hk,rfl⟩:=W4.mp hf
 cases κ with
 |r p hp=>exact trivial
 |q =>
  obtain ⟨i,_,rfl⟩:=W4.mp hx;exact Zrj m7 qA qv (by have:=m3 rfl;have:=U9.mp hk;omega) i
theorem Znk{A R:ZZll κ}{m n:Nat}{v f:ZZlk κ}{ls:List Nat}(lp:Lpo A m v f n)(k1:∀u,Ker R n m u↔Ker ((List.range n).map (imL A m v)) n m u)(ech:Ech R n m ls 1):ls.length=n:=by
 refine Znd (G:=(List.range n).map (imL A m v)) (by rw[Q2,Qs]) k1 ech λh hz=>lp.i h λi hi=>?_;rw[<-hz i hi];exact Rg.Sg_congr λk hk=>by rw[ZoV hk];show _=h k*(imL A m v k).getD i 0;rw[show (imL A m v k).getD i 0=_ from Zbb _ hi]
end
inductive Zco (CF CR:Addr) (vs:List V) (H:Hp) (Q:VK) (zE:XK):Prop
 |mk (κ:KX) (s ta ca:Addr) (rs:ZZla) (A:ZZll κ) (xs:List V) (v:ZZlk κ) (m:Nat) (_:vs=[.ref s,.ref ta,.ref ca]) (_:KdX CF CR κ H s) (_:TabL κ H ta rs A m) (_:ColL κ H ca xs v) (_:(A.length≠m\/v.length≠A.length)) (_:∀H',Same H H'->Q (.bl true) H'):Zco CF CR vs H Q zE
inductive Zdg (vs:List V) (H:Hp) (Q:VK) (zE:XK):Prop
 |mk (κ:KX) (ta ca:Addr) (rs:ZZla) (A:ZZll κ) (xs:List V) (v:ZZlk κ) (m n:Nat) (_:vs=[.int κ.P,.ref ta,.ref ca,.int ((n+1:Nat):Int)]) (_:TabL κ H ta rs A m) (_:A.length=m) (_:m<=7) (_:n<=7) (_:AllR (Q12 κ) A) (_:ColL κ H ca xs v) (_:v.length=m) (_:(∀x∈v,Q12 κ x)) (_:∀(H':Hp) (D:Addr) (cs:ZZla),Same H H'->H' D=some (.lst (cs.map V.ref))->RowsX κ H' cs ((List.range (n+1)).map (imL A m v))->Q (.ref D) H'):Zdg vs H Q zE
inductive ZeJ (CF CR:Addr) (vs:List V) (H:Hp) (Q:VK) (zE:XK):Prop
 |mk (κ:KX) (s ta ca:Addr) (rs:ZZla) (A:ZZll κ) (xs:List V) (v:ZZlk κ) (m:Nat) (_:vs=[.ref s,.int κ.P,.ref ta,.ref ca]) (_:KdX CF CR κ H s) (_:TabL κ H ta rs A m) (_:A.length=m) (_:m<=7) (_:(κ = .q->m<=3)) (_:AllR (Q12 κ) A) (_:ColL κ H ca xs v) (_:v.length=m) (_:(∀x∈v,Q12 κ x)) (_:∀H',Same H H'->Q (.bl true) H'):ZeJ CF CR vs H Q zE
section
variable{P:Program}{w:World}{K:ZZfg}{mg:ZZmg}{base:Heap}{CF CR CE cK cN cF cT cI cX cM cR:Addr}
theorem sc_l_refused:FnScope ["_law_kind_here","_law_table","_law_column","_law_got","e"] ["_law_kind_here","_law_table","_law_column"] (Zah ZdI):=‹2›
theorem Zf8(h:Here K mg "_law_refused" ZdI) (T:Nm mg) (R:Rf K mg CE cK cN cF cT cI cX cM cR) (Z:Rz K mg "NoFit" CE cF [cK,cN,cT,cI,cX,cM,cR]) (h_least_of:HasX P w K mg base "least_of" 13 ["kind", "A", "column"] (ZjA CF CR cF)):Has P w K mg base "_law_refused" 14 ["_law_kind_here", "_law_table", "_law_column"] (Zco CF CR):=by
  refine h.has (λ_ _ F=>F.b3 λ_ _ _ _ _ _ _ _ _=>rfl) λf fd F=>F.ok sc_l_refused (λvs H Q E h=>?_) (λcdv A outer s H vs Q E hr h=>?_)
  · obtain ⟨_,_,_,_,_,_,_,_,_,rfl,_⟩:=h
    rfl
  obtain ⟨κ,sk,ta,ca,rs,A,xs,v,m,rfl,hk,tb,hC,bad,k⟩:=h;have nd:=sc_l_refused.nd;refine ⟨_,(Zac (Zak (i:=3) nd rfl (Or.inl rfl) ZiY)
    (Zac (ZpG R.cat nd (i:=4) rfl rfl (by rfl) (by exact λE pn xe hp=>(Zae (ZaT (ZbA h_least_of hp hr (by rfl) (Zaa (pv 0) (Zaa (pv 1) (Zaa (pv 2) Zab))))))) (by exact λe=>(Zae (Zak (i:=3) nd rfl (Or.inl rfl) (pv 4)))))
    (Zac (ZaB (Zcw (ZaF (Zaj Zaw (by rfl) T.isinstance boot_isinstance (Zaa (pv 3) (Zaa (Zcv (v:=.ref cK) (by rfl) R.k.m rfl) Zab)))) (Zcw (ZaF (Zaj Zaw (by rfl) T.isinstance boot_isinstance (Zaa (pv 3) (Zaa (Zcv (v:=.ref cN) (by rfl) R.n.m rfl) Zab)))) (Zcw (ZaF (Zaj Zaw (by rfl) T.isinstance boot_isinstance (Zaa (pv 3) (Zaa (Zcv (v:=.ref cT) (by rfl) R.t.m rfl) Zab)))) (ZcT (ZaF (Zaj Zaw (by rfl) T.isinstance boot_isinstance (Zaa (pv 3) (Zaa (Zcv (v:=.ref cI) (by rfl) R.i.m rfl) Zab)))))))).pt (Zae (Zal Zdr)) Zat)
    (Zac (ZaB (Zcw (ZaF (Zaj Zaw (by rfl) T.isinstance boot_isinstance (Zaa (pv 3) (Zaa (Zcv (v:=.ref cX) (by rfl) R.x.m rfl) Zab)))) (Zcw (ZaF (Zaj Zaw (by rfl) T.isinstance boot_isinstance (Zaa (pv 3) (Zaa (Zcv (v:=.ref cM) (by rfl) R.m.m rfl) Zab)))) (ZcT (ZaF (Zaj Zaw (by rfl) T.isinstance boot_isinstance (Zaa (pv 3) (Zaa (Zcv (v:=.ref cR) (by rfl) R.r.m rfl) Zab))))))).pt (Zae (Zal Zdr)) Zat)
    (Zae (Zal (Zhf (Zaj Zaw (by rfl) T.isinstance boot_isinstance (Zaa (pv 3) (Zaa (Zcv (v:=.ref cF) (by rfl) R.f.m rfl) Zab))) (Zf9 (Zaj Zaw (by rfl) T.isinstance boot_isinstance (Zaa (pv 3) (Zaa (ZcX (by rfl) R.ve PyProof.Rows.Boot.«ValueError») Zab))))))))))),?_⟩
  obtain ⟨oK,oN,oT,oI,oX,oM,oR,_⟩:=Z.o;intro pn xe;refine ⟨_,rfl,_,rfl,_,rfl,κ,sk,ta,ca,rs,A,xs,v,m,rfl,hk,tb,hC,(λ_=>?_),λe1 e2=>?_⟩
  rotate_left
  · exact absurd bad (by
      rintro (z | z)
      · exact z e1
      · exact z (by rw[e1]; exact e2))
  refine ⟨cF,rfl,Z.e,λe he=>?_⟩;refine ⟨_,rfl,?_⟩;have he':=Zaf (H:=H) (a:=e) (o:=Zot e cF none);have S1:=Zag he (Zot e cF none);generalize upd H e (Zot e cF none)=H1 at *;have hx:TyX K H1 (.ref e) (.ref cF):=.exc he' Z.c.cls;refine ⟨_,rfl,_,_,_,_,rfl,hx,.ref (R.k.no oK),_,rfl,Zdt ?_⟩;refine ⟨_,rfl,_,_,_,_,rfl,hx,.ref (R.n.no oN),_,rfl,Zdt ?_⟩;refine ⟨_,rfl,_,_,_,_,rfl,hx,.ref (R.t.no oT),_,rfl,Zdt ?_⟩;refine ⟨_,rfl,_,_,_,_,rfl,hx,.ref (R.i.no oI),_,rfl,Zdt ?_⟩;refine ⟨_,rfl,_,_,_,_,rfl,hx,.ref (R.x.no oX),_,rfl,Zdt ?_⟩;refine ⟨_,rfl,_,_,_,_,rfl,hx,.ref (R.m.no oM),_,rfl,Zdt ?_⟩;refine ⟨_,rfl,_,_,_,_,rfl,hx,.ref (R.r.no oR),_,rfl,Zdt ?_⟩;refine ⟨_,rfl,_,_,_,_,rfl,hx,.ref Zmr,_,rfl,ZjK ?_⟩;exact ⟨_,rfl,_,_,_,_,rfl,hx,.ty (Zq0 K Z.v),k _ S1⟩
theorem sc_l_chained:FnScope ["_law_prime_here","_law_table","_law_column","_law_many","_law_told"] ["_law_prime_here","_law_table","_law_column","_law_many"] (Zah ZdJ):=‹2›
theorem Zh2(h:Here K mg "_law_chained" ZdJ) (T:Nm mg) (h_l_image:Has P w K mg base "_law_image" 4 ["_law_prime_here","_law_table","_law_column"] ZeH):Has P w K mg base "_law_chained" 5 ["_law_prime_here","_law_table","_law_column","_law_many"] Zdg:=by
 refine h.has (λ_ _ F=>F.b4 λ_ _ _ _ _ _ _ _ _ _=>rfl) λf fd F=>F.ok sc_l_chained (λvs H Q E h=>?_) (λcdv A outer s H vs Q E hr h=>?_)
 ·obtain ⟨_,_,_,_,_,_,_,_,_,rfl,_⟩:=h
  rfl
 obtain ⟨κ,ta,ca,rs,A,xs,v,m,n,rfl,tb,sq,m7,n7,qA,cv,lv,qv,k⟩:=h;have nd:=sc_l_chained.nd;refine ⟨_,(Zac (Zak (i:=4) nd rfl (Or.inl rfl) (ZaN (Zaa (Zcq Zb7 (by rfl) T.list boot_list (Zaa (pv 2) Zab)) Zab)))
  (Zac (Zbq PassesOwn.never (Zar Zef (Zaj Zai (by rfl) T.len boot_len (Zaa (pv 4) Zab)) (pv 3) (Zav _)) (Zae (ZaT (ZeU PySem.F.plainAttrs_list PySem.F.slot_list_append PySem.F.type_list_append Za6 (pv 4) (Zaa (Zam h_l_image hr (by rfl) (Zaa (pv 0) (Zaa (pv 1) (Zaa (Zao Zap (pv 4) (Zan Zbe (Zaj Zai (by rfl) T.len boot_len (Zaa (pv 4) Zab)) Zad) (λ_ _=>rfl)) Zab)))) Zab)))))
  (Zae (Zal (pv 4))))),?_⟩
 have lr:=tb.r.1;refine ⟨_,rfl,ca,xs,rfl,.inl (SqL.of cv.l),λc0 nc0=>⟨(by show 1<=sizeLine;decide),λD nD=>?_⟩⟩;have Sc:=Zag nc0 (.lst xs);have qc:=Zaf (H:=H) (a:=c0) (o:=.lst xs);generalize upd H c0 (.lst xs)=H1 at *;have SD:=Zag nD (.lst [.ref c0]);have qD:=Zaf (H:=H1) (a:=D) (o:=.lst [.ref c0]);have nD0:H D=none:=Sc.free nD;have ncD:c0≠D:=λz=>by rw[<-z,qc] at nD;cases nD
 generalize upd H1 D (.lst [.ref c0])=H2 at *;have S02:=Sc.trans SD;have r0:RowsX κ H2 [c0] ((List.range 1).map (imL A m v)):=by
  show RowsX κ H2 ([]++[c0]) ([]++[imL A m v 0]);rw[Zrh lv];exact RowsX.nil.snoc (SD _ _ qc) (cv.al.mono λ_ _ n=>n.same S02)
 refine ⟨λmm σ H'=>∃(i:Nat) (cs:ZZla),mm=n+1-i/\σ=[some (.int κ.P),some (.ref ta),some (.ref ca),some (.int ((n+1:Nat):Int)),some (.ref D)]/\Same H H'/\1<=i/\i<=n+1/\H' D=some (.lst (cs.map V.ref))/\D∉cs/\RowsX κ H' cs ((List.range i).map (imL A m v)),⟨_,1,[c0],rfl,rfl,S02,∅,⋯,qD,(λz=>ncD (Q6.mp z).symm),r0⟩,?_⟩;rintro mm σ H3 ⟨i,cs,rfl,rfl,S3,i1,iL,q3,nDc,r3⟩;have lc:=r3.1;rw[Q2,Qs] at lc;refine ⟨_,rfl,D,_,rfl,.inl (SqL.of q3),_,rfl,_,_,rfl,rfl,_,rfl,?_⟩;rw[Q2,lc];refine Za8 (λz=>?_) (λz=>?_)
 ·have z:(i:Int)<((n+1:Nat):Int):=z;refine ⟨_,λ_ _ h=>h,?_⟩;obtain ⟨b,hb⟩:∃b,cs[i-1]?=some b:=⟨_,Q4 (show i-1<cs.length by omega)⟩;obtain ⟨ws,hw,aw⟩:=r3.2 (i-1) b (imL A m v (i-1)) hb (by rw[Qb,Wf ⋯];rfl);have li:=Zdd A m v (i-1);have qi:=Zqg m7 qA qv (i-1);have p12:0<12^(i-1+1):=Qd ∅;refine ⟨_,rfl,.inl ⟨rfl,_,SqL.of q3⟩,_,rfl,_,rfl,_,rfl,_,rfl,D,_,rfl,.inl (SqL.of q3),_,_,rfl,rfl,D,_,_,_,rfl,rfl,SqL.of q3,(by rw[Q2,lc,show (i:Int)-1=((i-1:Nat):Int) by omega];exact ZaR hb),κ,ta,b,rs,A,ws,imL A m v (i-1),12^(i-1+1),756^(i-1)*108,rfl,S3 _ _ tb.l,tb.r.same S3,(by rw[li];exact tb.w),⋯,⋯,hw,aw,qA,qi,p12,Q0 (Q7 ∅ (show i-1+1<=8 by omega)) ∅,Q0 (Qp _ (Q7 ∅ (show i-1<=8 by omega))) ∅,λH4 E4 y4 S4 n4 h4 a4=>?_⟩;rw[<-Zm0 sq,show i-1+1=i by omega] at a4;have q4:=S4 _ _ q3;refine ⟨D,_,_,rfl,rfl,q4,Q8 (show (cs.map V.ref).length<1000 by rw[Q2];omega) ∅,?_⟩;have O:Off [D] H4 (upd H4 D (.lst (cs.map V.ref++[V.ref E4]))):=ZaZ (Same.refl H4);have nE:E4≠D:=λz=>by rw[z,q3] at n4;cases n4
  have O4:=O E4 _ (λz=>nE (Q6.mp z)) h4;have a5:=a4.mono λ_ _ n=>n.off q4 O;refine ⟨_,(by show n+1-(i+1)<n+1-i;omega),i+1,cs++[E4],rfl,rfl,Off.same O (S3.trans S4) (λz hz=>by rw[Q6.mp hz];exact nD0),⋯,⋯,by rw[Zaf,Qn];rfl,?_,?_⟩
  ·intro z;rcases Qx.mp z with z|z
   ·exact nDc z
   ·exact nE (Q6.mp z).symm
  ·rw[Uo,Qn];exact ((r3.same S4).off nDc q4 O).snoc O4 a5
 ·have z:¬(i:Int)<((n+1:Nat):Int):=z;obtain rfl:i=n+1:=⋯;exact ⟨_,rfl,k H3 D cs S3 q3 r3⟩
end
section
variable{P:Program}{w:World}{K:ZZfg}{mg:ZZmg}{base:Heap}{CF CR cF:Addr}
theorem sc_l_least:FnScope ["_law_kind_here","_law_prime_here","_law_table","_law_column","_law_handed","_law_f","_law_some","_law_sums","_law_k","_law_i"] ["_law_kind_here","_law_prime_here","_law_table","_law_column"] (Zah Zfr):=‹2›
theorem Zkh(h:Here K mg "_law_least" Zfr) (T:Nm mg) (h_least_of:HasX P w K mg base "least_of" 13 ["kind", "A", "column"] (ZjA CF CR cF)) (h_l_spoil:Has P w K mg base "_law_spoil" 13 ["_law_thing"] (Zgf K (Zgf K (Zgf K spF)))) (h_l_is_row:Has P w K mg base "_law_is_row" 13 ["_law_prime_here", "_law_found", "_law_many"] ZcO) (h_l_make:Has P w K mg base "_law_make" 13 ["_law_prime_here", "_law_number"] ZbH) (h_l_plus:Has P w K mg base "_law_plus" 13 ["_law_prime_here", "_law_one", "_law_other"] (Zbm λ_ x y=>x+y)) (h_l_times:Has P w K mg base "_law_times" 13 ["_law_prime_here", "_law_one", "_law_other"] (Zbm λ_ x y=>x*y)) (h_l_chained:Has P w K mg base "_law_chained" 13 ["_law_prime_here", "_law_table", "_law_column", "_law_many"] Zdg) (h_l_ranked:Has P w K mg base "_law_ranked" 13 ["_law_prime_here", "_law_rows"] ZcS):Has P w K mg base "_law_least" 14 ["_law_kind_here", "_law_prime_here", "_law_table", "_law_column"] (ZeJ CF CR):=by
  refine h.has (λ_ _ F=>F.b4 λ_ _ _ _ _ _ _ _ _ _=>rfl) λf fd F=>F.ok sc_l_least (λvs H Q E h=>?_) (λcdv A outer s H vs Q E hr h=>?_)
  · obtain ⟨_,_,_,_,_,_,_,_,_,rfl,_⟩:=h
    rfl
  obtain ⟨κ,sk,ta,ca,rs,A,xs,v,m,rfl,hk,tb,sq,m7,m3,qA,cv,lv,qv,k⟩:=h;have nd:=sc_l_least.nd;refine ⟨_,(Zac (Zak (i:=4) nd rfl (Or.inl rfl) (ZaN (Zaa (ZaU ["_law_row"] [] rfl (ZaD (pv 2)) (by exact λ_ _ _ _=>(Zaq (i:=0) (show (["_law_row"]:List Str).Nodup by decide +kernel) rfl (Or.inl rfl))) (by exact λ_ _ _ _=>(Zcq (ZdW K rfl) (by rfl) T.list boot_list (Zaa (pv 0) Zab))) trivial) (Zaa (Zcq Zb7 (by rfl) T.list boot_list (Zaa (pv 3) Zab)) Zab))))
    (Zac (ZaT (Zam h_l_spoil hr (by rfl) (Zaa (ZbA h_least_of Zcr hr (by rfl) (Zaa (pv 0) (Zaa (Zao Zap (pv 4) Zad (λ_ _=>rfl)) (Zaa (Zao Zap (pv 4) Zad (λ_ _=>rfl)) Zab)))) Zab)))
    (Zac (Zak (i:=5) nd rfl (Or.inl rfl) (ZbA h_least_of Zcr hr (by rfl) (Zaa (pv 0) (Zaa (Zao Zap (pv 4) Zad (λ_ _=>rfl)) (Zaa (Zao Zap (pv 4) Zad (λ_ _=>rfl)) Zab)))))
    (Zac (ZaB (Zcw (Zb6 (ZaF (Zaj Zaw (by rfl) T.isinstance boot_isinstance (Zaa (pv 5) (Zaa (ZcX (by rfl) T.list boot_list) Zab))))) (Zcw (Zar Zef (Zaj Zai (by rfl) T.len boot_len (Zaa (pv 5) Zab)) Zad (Zav _)) (Zcw (Zar ZfR (Zaj Zai (by rfl) T.len boot_len (Zaa (pv 5) Zab)) (Zan ZaM (Zaj Zai (by rfl) T.len boot_len (Zaa (pv 2) Zab)) Zad) (Zav _)) (ZcT (Zar (ZkV hr) (pv 4) (ZaN (Zaa (pv 2) (Zaa (pv 3) Zab))) (Zav _)))))).pt (Zae (Zal Zdr)) Zat)
    (Zac (ZaB (Zcw (Zb6 (ZaF (Zam h_l_is_row hr (by rfl) (Zaa (pv 1) (Zaa (pv 5) (Zaa (Zaj Zai (by rfl) T.len boot_len (Zaa (pv 5) Zab)) Zab)))))) (ZcT (Zar (ZkV hr) (Zao Zap (pv 5) (Zan Zbe (Zaj Zai (by rfl) T.len boot_len (Zaa (pv 5) Zab)) Zad) (λ_ _=>rfl)) (Zam h_l_make hr (by rfl) (Zaa (pv 1) (Zaa Zad Zab))) (Zav _)))).pt (Zae (Zal Zdr)) Zat)
    (Zac (Zak (i:=6) nd rfl (Or.inl rfl) (Zam h_l_chained hr (by rfl) (Zaa (pv 1) (Zaa (pv 2) (Zaa (pv 3) (Zaa (Zaj Zai (by rfl) T.len boot_len (Zaa (pv 5) Zab)) Zab))))))
    (Zac (Zbz (i:=7) ["_law_one"] [(1, "_law_prime_here")] nd rfl rfl rfl (ZaD (pv 3)) (by exact λ_ _ _ _=>(Zaq (i:=0) (show (["_law_one", "_law_prime_here"]:List Str).Nodup by decide +kernel) rfl (Or.inl rfl))) (by exact λ_ _ _ _=>(Zam h_l_make hr (by rfl) (Zaa (pv 1) (Zaa Zad Zab)))) ⟨⟨rfl,rfl,Or.inl rfl⟩,trivial⟩)
    (Zac (Za2 PassesOwn.never rfl (ZaE (by rfl) T.range (Zaa (Zaj Zai (by rfl) T.len boot_len (Zaa (pv 5) Zab)) Zab)) (Zaq (i:=8) nd rfl (Or.inl rfl)) (Zae (Za2 PassesOwn.never rfl (ZaE (by rfl) T.range (Zaa (Zaj Zai (by rfl) T.len boot_len (Zaa (pv 7) Zab)) Zab)) (Zaq (i:=9) nd rfl (Or.inl rfl)) (Zae (Zhh (Zam h_l_plus hr (by rfl) (Zaa (pv 1) (Zaa (Zao Zap (pv 7) (pv 9) (λ_ _=>rfl)) (Zaa (Zam h_l_times hr (by rfl) (Zaa (pv 1) (Zaa (Zao Zap (pv 5) (pv 8) (λ_ _=>rfl)) (Zaa (Zao Zap (Zao Zap (pv 6) (pv 8) (λ_ _=>rfl)) (pv 9) (λ_ _=>rfl)) Zab)))) Zab)))) (Zhg (pv 7) (pv 9) ZdR))))))
    (Zac (ZaB (Zar (ZkV hr) (pv 7) (ZaU ["_law_one"] [(1, "_law_prime_here")] rfl (ZaD (pv 3)) (by exact λ_ _ _ _=>(Zaq (i:=0) (show (["_law_one", "_law_prime_here"]:List Str).Nodup by decide +kernel) rfl (Or.inl rfl))) (by exact λ_ _ _ _=>(Zam h_l_make hr (by rfl) (Zaa (pv 1) (Zaa Zad Zab)))) ⟨⟨rfl,rfl,Or.inl rfl⟩,trivial⟩) (Zav _)) (Zae (Zal Zdr)) Zat)
    (Zae (Zal (ZqI (Zcg Zby (Zaj Zai (by rfl) T.len boot_len (Zaa (pv 5) Zab)) Zad (Zav _)) (Zf9 (Zcg Zby (Zam h_l_ranked hr (by rfl) (Zaa (pv 1) (Zaa (ZaS Zbg (pv 6) Zbr (Za5 (Zds ZbT Zad))) Zab))) (Zan Zbe (Zaj Zai (by rfl) T.len boot_len (Zaa (pv 5) Zab)) Zad) (Zav _))))))))))))))),?_⟩
  have lr:=tb.r.1;have lx:=cv.al.1;refine ⟨_,rfl,ta,rfl,⟨_,SqL.of tb.l⟩,?_⟩;refine ZaG (K:=K) (a:=ta) (xs:=rs.map V.ref) (λt ys H9=>Same H H9/\∃hs:ZZla,ys=hs.map V.ref/\RowsX κ H9 hs (A.take t)) (by rw[Q2]; omega) ⟨Same.refl _,[],rfl,by rw[Um]; exact .nil⟩ (λt ys H9 _ q=>SqL.of (q.1 _ _ tb.l)) ?_ ?_
  · rintro t x ys H9 hx hl ⟨S9,hs,rfl,rh⟩
    obtain ⟨b,hb',rfl⟩:=ZaA hx;obtain ⟨g,hg⟩:=ZaV hb' lr;obtain ⟨xs,hxs,al⟩:=tb.r.2 t b g hb' hg;refine ⟨_,rfl,b,xs,rfl,.inl (SqL.of (S9 _ _ hxs)),λn nn=>?_⟩;have Sn:=Zag nn (.lst xs);refine ⟨S9.trans Sn,hs++[n],by simp,?_⟩;rw[W5,hg];exact (rh.same Sn).snoc Zaf (al.mono λ_ _ n=>n.same (S9.trans Sn))
  rintro ys H1 _ ⟨S1,hs,rfl,rh⟩ l1 nl1;rw[Q2,lr,Wy] at rh;have Sl1:=Zag nl1 (.lst (hs.map V.ref));have ql1:=Zaf (H:=H1) (a:=l1) (o:=.lst (hs.map V.ref));have rh2:=rh.same Sl1;generalize upd H1 l1 (.lst (hs.map V.ref))=H2 at *;have S02:=S1.trans Sl1;refine ⟨_,rfl,ca,xs,rfl,.inl (SqL.of (S02 _ _ cv.l)),λl2 nl2=>?_⟩;have Sl2:=Zag nl2 (.lst xs);have ql2:=Zaf (H:=H2) (a:=l2) (o:=.lst xs);generalize upd H2 l2 (.lst xs)=H3 at *;refine ⟨(by show 2<=sizeLine; decide),λhd nhd=>?_⟩;have Sh:=Zag nhd (.lst [.ref l1,.ref l2]);have qh:=Zaf (H:=H3) (a:=hd) (o:=.lst [.ref l1,.ref l2]);have S24:=Sl2.trans Sh;have rh4:=rh2.same S24;have ql14:=S24 _ _ ql1;have ql24:=Sh _ _ ql2;generalize upd H3 hd (.lst [.ref l1,.ref l2])=H4 at *;have S04:=S02.trans S24;have th4:TabL κ H4 l1 hs A m:=⟨ql14,rh4,tb.w,tb.n1,tb.n9,tb.m9⟩;have ch4:ColL κ H4 l2 xs v:=⟨ql24,cv.al.mono λ_ _ n=>n.same S04⟩;have rpH:∀ {H':Hp},Same H4 H'->Rp H' 8 (.ref hd) (.list [Zq4 A,Zrs v]):=λS=>(ZhF (n:=3) (S _ _ qh) (.cons ((rh4.same S).rp (S _ _ ql14)) (.cons ((ch4.same S).rp.mono ∅) .nil))).mono ∅;have rpN:∀ {H':Hp} {a:Addr},Same H H'->H' a=some (.lst [.ref ta,.ref ca])->Rp H' 8 (.ref a) (.list [Zq4 A,Zrs v]):=λS ha=>(ZhF (n:=3) ha (.cons ((tb.r.same S).rp (S _ _ tb.l)) (.cons ((cv.same S).rp.mono ∅) .nil))).mono ∅;refine ⟨_,rfl,_,rfl,hd,_,0,_,rfl,rfl,SqL.of qh,rfl,_,rfl,hd,_,1,_,rfl,rfl,SqL.of qh,rfl,κ,sk,l1,l2,hs,A,xs,v,m,rfl,hk.same S04,th4,ch4,(λz=>?_),λ_ _=>⟨m7,m3,qA,qv,λH5 D5 y5 f5 n5 S5 nD5 hD5 a5 lp5=>?_⟩⟩
  · exact absurd z (by
      rintro (z | z)
      · exact z sq
      · exact z (by rw[sq]; exact lv))
  have ly:y5.length<=100:=by have:=lp5.l; have:=lp5.nm; have:=a5.1; omega
  refine ⟨_,rfl,.inr (.inr ⟨D5,y5,λ_ H'=>H'=H5,rfl,hD5,ly,rfl,λi H' _ e=>by rw[e]; exact hD5,λi x' H' Q' hx e k'=>?_,λH' e=>?_⟩)⟩
  · subst e
    obtain ⟨x,_,nx⟩:=a5.get hx;exact Zln nx (k' _ _ rfl)
  subst e;have O:Off [D5] H' (upd H' D5 (.lst (y5++[.non]))):=ZaZ (Same.refl H');generalize upd H' D5 (.lst (y5++[.non]))=H6 at *;have S46:Same H4 H6:=Off.same O S5 λz hz=>by rw[Q6.mp hz]; exact nD5
  clear O S5 nD5 hD5 a5 lp5 ly;have S06:=S04.trans S46;refine ⟨_,rfl,_,rfl,hd,_,0,_,rfl,rfl,SqL.of (S46 _ _ qh),rfl,_,rfl,hd,_,1,_,rfl,rfl,SqL.of (S46 _ _ qh),rfl,κ,sk,l1,l2,hs,A,xs,v,m,rfl,hk.same S06,th4.same S46,ch4.same S46,(λz=>?_),λ_ _=>⟨m7,m3,qA,qv,λH7 D ys f n S7 nD hD aD lp=>?_⟩⟩
  · exact absurd z (by
      rintro (z | z)
      · exact z sq
      · exact z (by rw[sq]; exact lv))
  have S47:=S46.trans S7;have S07:=S04.trans S47;have lf:=lp.l;have nm:=lp.nm;have ly:=aD.1;refine ⟨_,rfl,_,_,_,_,rfl,.of (.lst hD),.ty (Zb8 K _),_,rfl,Zdt ?_⟩;refine ⟨_,rfl,D,_,rfl,.inl (SqL.of hD),_,_,rfl,rfl,_,rfl,?_⟩;refine Za8 (λz=>absurd (show (ys.length:Int)<1 from z) ⋯) (λ_=>?_);refine ⟨_,rfl,D,_,rfl,.inl (SqL.of hD),_,rfl,ta,_,rfl,.inl (SqL.of (S07 _ _ tb.l)),_,_,rfl,rfl,_,_,rfl,rfl,_,rfl,?_⟩;refine Za8 (λz=>absurd (show ((rs.map V.ref).length:Int)+1<(ys.length:Int) from z) (by rw[Q2]; omega)) (λ_=>?_);refine ⟨_,rfl,_,rfl,_,rfl,(by show 2<=sizeLine; decide),λw1 nw1=>?_⟩;have Sw:=Zag nw1 (.lst [.ref ta,.ref ca]);have qw:=Zaf (H:=H7) (a:=w1) (o:=.lst [.ref ta,.ref ca]);generalize upd H7 w1 (.lst [.ref ta,.ref ca])=H8 at *;have S48:=S47.trans Sw;have S08:=S04.trans S48;refine ⟨_,rpH S48,rpN S08 qw,_,rfl,Zdt ?_⟩;have hD8:=Sw _ _ hD;have aD8:AllG (NR κ H8) ys f:=aD.mono λ_ _ n=>n.same Sw;refine ⟨_,rfl,_,rfl,_,rfl,D,_,rfl,.inl (SqL.of hD8),κ,D,ys,f,(by rw[ly]; rfl),hD8,aD8,_,rfl,Zdt ?_⟩;obtain ⟨vt,hvt,nvt⟩:=Za1 aD8 (i:=n) ⋯;rw[lp.mo] at nvt;refine ⟨_,rfl,_,rfl,D,_,rfl,.inl (SqL.of hD8),_,_,rfl,rfl,D,_,_,_,rfl,rfl,SqL.of hD8,(by rw[ly,lf,show ((n+1:Nat):Int)-1=(n:Int) by omega]; exact ZaK hvt),_,rfl,κ,1,1,rfl,ZdL,λH9 v1 S9 n1=>?_⟩;refine ⟨_,(nvt.same S9).rp.mono ∅,n1.rp.mono ∅,_,rfl,Zdt ?_⟩;have S09:=S08.trans S9;have hD9:=S9 _ _ hD8;have aD9:AllG (NR κ H9) ys f:=aD8.mono λ_ _ n=>n.same S9;refine ⟨_,rfl,_,rfl,_,rfl,_,rfl,D,_,rfl,.inl (SqL.of hD9),κ,ta,ca,rs,A,xs,v,m,n,(by rw[ly,lf]; rfl),tb.same S09,sq,m7,⋯,qA,cv.same S09,lv,qv,λHa Dc cs Sa hC rC=>?_⟩;have S0a:=S09.trans Sa;have lc:=rC.1;rw[Q2,Qs] at lc;refine ⟨_,rfl,ca,rfl,⟨_,SqL.of (S0a _ _ cv.l)⟩,?_⟩;refine ZaG (K:=K) (a:=ca) (xs:=xs) (λi ys Hb=>Same Ha Hb/\AllG (NR κ Hb) ys (List.replicate i 0)) ⋯ ⟨Same.refl _,.nil⟩ (λi ys Hb _ q=>SqL.of ((S0a.trans q.1) _ _ cv.l)) ?_ ?_
  · rintro i x ys Hb hx hl ⟨Sb,eb⟩
    refine ⟨_,rfl,κ,0,0,rfl,ZfW,λHc u Sc nu=>⟨Sb.trans Sc,?_⟩⟩;rw[List.replicate_succ'];exact (eb.mono λ_ _ n=>n.same Sc).append (.one nu)
  rintro zs Hb _ ⟨Sb,eb⟩ su nsu;rw[lx,lv,<-Zrt A m v f] at eb;have Ss:=Zag nsu (.lst zs);have qs:=Zaf (H:=Hb) (a:=su) (o:=.lst zs);have eb:=eb.mono λ_ _ n=>n.same Ss;generalize upd Hb su (.lst zs)=Hc at *;have Sac:=Sb.trans Ss;have S0c:=S0a.trans Sac;have nsa:Ha su=none:=Sb.free nsu;have hDa:=Sa _ _ hD9;have aDa:AllG (NR κ Ha) ys f:=aD9.mono λ_ _ n=>n.same Sa;obtain ⟨b1,b2,b3,b4⟩:=Zqt lp m7 m3 qA qv;refine ⟨_,rfl,D,_,rfl,.inl (SqL.of (Sac _ _ hDa)),(ys.length:Int),rfl,⋯,⋯,?_⟩;rw[show ((ys.length:Int)).toNat=n+1 by omega];refine Zbi (lo:=0) (n:=n+1) (λi σ Hd=>∃(z8 z9:Option V) (zs:List V),σ=[some (.ref sk),some (.int κ.P),some (.ref ta),some (.ref ca),some (.ref hd),some (.ref D),some (.ref Dc),some (.ref su),z8,z9]/\Same Ha Hd/\Hd su=some (.lst zs)/\AllG (NR κ Hd) zs (smL A m v f i 0)) ⟨_,_,zs,rfl,Sac,qs,eb⟩ ?_ ?_
  · rintro i σ Hd hi ⟨z8,z9,zs,rfl,Sd,qd,ed⟩
    have lz:=ed.1;rw[Zcn] at lz;obtain ⟨vf,hvf,nvf⟩:=Za1 aDa (i:=i) ⋯;obtain ⟨b,hb⟩:∃b,cs[i]?=some b:=⟨_,Q4 (show i<cs.length by omega)⟩;obtain ⟨ws,hw,aw⟩:=rC.2 i b (imL A m v i) hb (by rw[Qb,Wf ⋯]; rfl);refine ⟨_,rfl,su,_,rfl,.inl (SqL.of qd),(zs.length:Int),rfl,⋯,⋯,?_⟩;rw[show ((zs.length:Int)).toNat=m by omega];refine Zbi (lo:=0) (n:=m) (λj σ He=>∃(z9:Option V) (us:List V),σ=[some (.ref sk),some (.int κ.P),some (.ref ta),some (.ref ca),some (.ref hd),some (.ref D),some (.ref Dc),some (.ref su),some (.int (0+(i:Int))),z9]/\Same Ha He/\He su=some (.lst us)/\AllG (NR κ He) us (smL A m v f i j)) ⟨_,zs,rfl,Sd,qd,ed⟩ ?_ ?_
    · rintro j σ He hj ⟨z9,us,rfl,Se,qe,ee⟩
      have lu:=ee.1;rw[Zcn] at lu;obtain ⟨vs,hvs,nvs⟩:=Za1 ee (i:=j) (by rw[Zcn]; exact hj);obtain ⟨vi,hvi,nvi⟩:=Za1 aw (i:=j) (by rw[Zdd]; exact hj);rw[show (imL A m v i).getD j 0=Rg.im (ent A) m (vF v) i j from Zbb _ hj] at nvi;have bS:B1 κ ((smL A m v f i j).getD j 0):=by rw[Zn3 hj]; exact b4 i j ⋯
      refine ⟨_,rfl,_,rfl,_,rfl,su,_,_,vs,rfl,rfl,SqL.of qe,(by rw[Qw]; exact ZaK hvs),_,rfl,_,rfl,_,rfl,D,_,_,vf,rfl,rfl,SqL.of (Se _ _ hDa),(by rw[Qw]; exact ZaK hvf),_,rfl,_,rfl,Dc,_,_,_,rfl,rfl,SqL.of (Se _ _ hC),(by rw[Qw]; exact ZaR hb),_,rfl,b,_,_,vi,rfl,rfl,SqL.of (Se _ _ hw),(by rw[Qw]; exact ZaK hvi),κ,vf,vi,_,_,rfl,nvf.same Se,nvi.same Se,b1 i,b2 i j ⋯,λHf vp Sf np=>?_⟩;refine ⟨κ,vs,vp,_,_,rfl,nvs.same Sf,np,bS,b3 i j ⋯,λHg vq Sg nq=>?_⟩;have nq:NR κ Hg vq ((smL A m v f i j).getD j 0+f.getD i 0*Rg.im (ent A) m (vF v) i j):=nq;have Seg:=Sf.trans Sg;have qg:=Seg _ _ qe;refine ⟨_,rfl,_,rfl,su,us,_,_,rfl,rfl,qg,(by rw[Qw]; exact Zk8 (Int.natCast_nonneg _) ⋯),?_⟩;rw[Qw,Qu];have O:Off [su] Hg (upd Hg su (.lst (us.set j vq))):=ZaZ (Same.refl Hg);refine ⟨_,us.set j vq,rfl,Off.same O (Se.trans Seg) (λz hz=>by rw[Q6.mp hz]; exact nsa),Zaf,?_⟩;rw[<-Znj hj];exact (ee.mono λ_ _ n=>(n.same Seg).off qg O).set _ (nq.off qg O)
    · rintro σ He ⟨z9,us,rfl,Se,qe,ee⟩
      rw[Zpg] at ee;exact ⟨_,_,us,rfl,Se,qe,ee⟩
  rintro σ Hd ⟨z8,z9,us,rfl,Sd,qd,ed⟩;rw[Zph lp] at ed;have S0d:=S0a.trans Sd;refine ⟨_,rfl,_,rfl,ca,rfl,⟨_,SqL.of (S0d _ _ cv.l)⟩,?_⟩;refine ZaG (K:=K) (a:=ca) (xs:=xs) (λi ys He=>Same Hd He/\AllG (NR κ He) ys (List.replicate i 0)) ⋯ ⟨Same.refl _,.nil⟩ (λi ys He _ q=>SqL.of ((S0d.trans q.1) _ _ cv.l)) ?_ ?_
  · rintro i x ys He hx hl ⟨Se,ee⟩
    refine ⟨_,rfl,κ,0,0,rfl,ZfW,λHf u Sf nu=>⟨Se.trans Sf,?_⟩⟩;rw[List.replicate_succ'];exact (ee.mono λ_ _ n=>n.same Sf).append (.one nu)
  rintro ns He _ ⟨Se,ee⟩ nn nnn;rw[lx,lv] at ee;have Sn:=Zag nnn (.lst ns);have cn:ColL κ (upd He nn (.lst ns)) nn ns (List.replicate m 0):=⟨Zaf,ee.mono λ_ _ n=>n.same Sn⟩;generalize upd He nn (.lst ns)=Hf at *;have Sdf:=Se.trans Sn;refine ⟨_,(ColL.rp ⟨Sdf _ _ qd,ed.mono λ_ _ n=>n.same Sdf⟩).mono ∅,cn.rp.mono ∅,_,rfl,Zdt ?_⟩;have Saf:=Sd.trans Sdf;have S0f:=S0a.trans Saf;refine ⟨_,rfl,D,_,rfl,.inl (SqL.of (Saf _ _ hDa)),rfl,_,rfl,?_⟩;refine Zbx (λz=>?_) (λz=>?_)
  · exact k Hf S0f
  have n1:1<=n:=by
    have:¬(ys.length:Int)=1:=z;omega
  refine ⟨_,rfl,_,rfl,_,rfl,_,rfl,Dc,_,rfl,SqL.of (Saf _ _ hC),λp np=>?_⟩;have ec:ZeL (cs.map V.ref) none (some (-1))=(cs.take n).map V.ref:=by
    rw[ZlG,Q2,lc,Wc,List.map_take]
  have et:((List.range (n+1)).map (imL A m v)).take n=(List.range n).map (imL A m v):=by
    rw[<-List.map_take,List.take_range,show min n (n+1)=n by omega]
  show ZcS [.int κ.P,.ref p] (upd Hf p (.lst (ZeL (cs.map V.ref) none (some (-1))))) _ _;rw[ec];have Sp:=Zag np (.lst ((cs.take n).map V.ref));have qp:=Zaf (H:=Hf) (a:=p) (o:=.lst ((cs.take n).map V.ref));have r2:=((rC.same Saf).same Sp).take n;rw[et] at r2;generalize upd Hf p (.lst ((cs.take n).map V.ref))=Hg at *;refine ⟨κ,p,cs.take n,_,n,m,rfl,qp,r2,by rw[Q2,Qs],(λf hf=>by obtain ⟨t,_,rfl⟩:=W4.mp hf; exact Zdd _ _ _ _),n1,⋯,m7,m3,Zqu m7 m3 nm qA qv,λHh R ls Sh kr ech=>?_⟩;have er:=Znk lp kr ech;have Sah:=Saf.trans (Sp.trans Sh);refine ⟨_,rfl,D,_,rfl,.inl (SqL.of (Sah _ _ hDa)),_,_,rfl,rfl,rfl,?_⟩;show Q (V.bl (decide (V.int (ls.length:Int)=V.int ((ys.length:Int)-1)))) Hh;have e:V.int (ls.length:Int)=V.int ((ys.length:Int)-1):=by
    rw[er,ly,lf]
    congr 1
    omega
  rw[decide_eq_true e];exact k Hh (S0a.trans Sah)
end
inductive sp_law (K:ZZfg) (vs:List V) (H:Hp) (Q:VK) (zE:XK):Prop
 |mk (a:Addr) (ns:List Int) (_:vs=[.ref a]) (_:SqL K H a (ns.map V.int)) (_:ns.length<=63) (_:(∀i∈ns,Bits 1048576 i)) (_:∀H',Q (.bl true) H'):sp_law K vs H Q zE
theorem Znl(ns:List Int)(lo hi:Option Int):∃ms:List Int,ZeL (ns.map V.int) lo hi=ms.map V.int/\ms.length<=ns.length:=by
 unfold ZeL;rw[<-List.map_drop,<-List.map_take];exact ⟨_,rfl,by rw[Qa,W7];omega⟩
theorem ZjB{K:ZZfg}{H H':Hp}{a:Addr}{xs:List V}(h:SqL K H a xs)(S:Same H H'):SqL K H' a xs:=by
 rcases h with h|h
 ·rcases h with h|⟨o,h⟩
  ·exact .inl (.inl (S _ _ h))
  ·exact .inl (.inr ⟨o,S _ _ h⟩)
 ·exact .inr h
theorem Zru{C G X:Prop}(h:(C->G)->X)(hG:C->G):X:=h hG
theorem Zqv(x y:Int)(b:Bool):∃m:Int,atI [V.int x,V.int y] (if b=true then 1 else 0)=some (.int m)/\(m=x\/m=y):=by
 cases b
 ·exact ⟨x,rfl,.inl rfl⟩
 ·exact ⟨y,rfl,.inr rfl⟩
theorem RowsX.dropK{κ:KX}{H:Hp}{as:ZZla}{R:ZZll κ}(h:RowsX κ H as R)(k:Nat):RowsX κ H (as.drop k) (R.drop k):=by
 refine ⟨by rw[W7,W7,h.1],λi a f ha hf=>?_⟩;rw[Uw] at ha hf;exact h.2 _ a f ha hf
theorem Zqw(zs:List V):ZeL zs none (some (-2))=zs.take (zs.length-2):=by
 unfold ZeL;rw[HT.sIx_none,List.drop_zero,Uz];have:HT.sIx zs.length zs.length (some (-2))=zs.length-2:=by
  simp only[HT.sIx]
  rw[if_pos ∅];omega
 rw[this]
def Fst(κ:KX)(H:Hp)(fa:Addr):Prop:=∃(ta ca:Addr) (rs:ZZla) (R:ZZll κ) (xs:List V) (v:ZZlk κ) (n:Nat),H fa=some (.lst [.ref ta,.ref ca])/\TabL κ H ta rs R n/\R.length=n/\n<=7/\(κ = .q->n<=3)/\AllR (Q12 κ) R/\ColL κ H ca xs v/\v.length=n/\∀x∈v,Q12 κ x
theorem Fst.same{κ:KX}{H H':Hp}{fa:Addr}(h:Fst κ H fa)(S:Same H H'):Fst κ H' fa:=by
 obtain ⟨ta,ca,rs,R,xs,v,n,h1,h2,h3,h4,h5,h6,h7,h8,h9⟩:=h;exact ⟨ta,ca,rs,R,xs,v,n,S _ _ h1,h2.same S,h3,h4,h5,h6,h7.same S,h8,h9⟩
inductive LwA (κ:KX) (a kk ca:Addr) (H4:Hp) (mm:Nat) (σ:L2.St) (H':Hp):Prop
 |mk (at':Int) (fa:Addr) (z6 z7 z8 z9 z10:Option V) (_:mm=(200-at').toNat) (_:σ=[some (.ref a),some (.int κ.P),some (.ref kk),some (.ref ca),some (.int at'),some (.ref fa),z6,z7,z8,z9,z10]) (_:Same H4 H') (_:1<=at') (_:((at'=1/\H' fa=some (.lst []))\/(1<at'/\Fst κ H' fa))):LwA κ  a kk ca  H4  mm σ H'
section
variable{P:Program}{w:World}{K:ZZfg}{mg:ZZmg}{base:Heap}{CF CR:Addr}
theorem sc_law:FnScope ["_law_script","_law_prime_here","_law_kind_here","_law_cells","_law_at","_law_first","_law_size_here","_law_table","_law_column","_law_noughts","_law_wrong"] ["_law_script"] (Zah Zoy):=‹2›
theorem Zqx{f:Addr}{fd:FuncData}(F:Fun K "law" "law" Zoy f fd) (T:Nm mg) (h_l_prime_by:Has P w K mg base "_law_prime_by" 14 ["_law_cell"] ZcN) (h_l_kind:Has P w K mg base "_law_kind" 14 ["_law_prime_here"] (ZfQ CF CR)) (h_l_cell_at:Has P w K mg base "_law_cell_at" 14 ["_law_cells","_law_k"] (Zcf K)) (h_l_size:Has P w K mg base "_law_size" 14 ["_law_prime_here","_law_cell"] ZdQ) (h_l_rows_by:Has P w K mg base "_law_rows_by" 14 ["_law_prime_here","_law_cells","_law_at","_law_rows","_law_columns"] Zdf) (h_l_make:Has P w K mg base "_law_make" 14 ["_law_prime_here","_law_number"] ZbH) (h_l_least:Has P w K mg base "_law_least" 14 ["_law_kind_here","_law_prime_here","_law_table","_law_column"] (ZeJ CF CR)) (h_l_refused:Has P w K mg base "_law_refused" 14 ["_law_kind_here","_law_table","_law_column"] (Zco CF CR)):FnOk P w K mg base CX0 15 f fd ["_law_script"] (sp_law K):=by
 refine F.ok sc_law (λvs H Q E h=>?_) (λcdv A outer s H vs Q E hr h=>?_)
 ·obtain ⟨_,_,rfl,_⟩:=h
  rfl
 obtain ⟨a,ns,rfl,hS,hl,hb,k⟩:=h;have nd:=sc_law.nd;refine ⟨_,(Zac (Zak (i:=1) nd rfl (Or.inr rfl) (Zam h_l_prime_by hr (by rfl) (Zaa (Zam h_l_cell_at hr (by rfl) (Zaa (pv 0) (Zaa Zad Zab))) Zab)))
  (Zac (Zak (i:=2) nd rfl (Or.inl rfl) (Zam h_l_kind hr (by rfl) (Zaa (pv 1) Zab)))
  (Zac (Zak (i:=3) nd rfl (Or.inl rfl) (ZaS Zbg (pv 0) Zbr (Za5 (Zao Zap (ZaN (Zaa Zad (Zaa Zad Zab))) (Zcq Zks (by rfl) T.int boot_int (Zaa (Zcg Zby (pv 1) Zad (Zav _)) Zab)) (λ_ _=>rfl)))))
  (Zac (Zak (i:=4) nd rfl (Or.inl rfl) Zad)
  (Zac (Zak (i:=5) nd rfl (Or.inl rfl) (ZaN Zab))
  (Zac (Zbq PassesOwn.never (Zcw (Zar Zby (pv 4) Zad (Zav _)) (ZcT (Zar Zef (pv 4) (Zaj Zai (by rfl) T.len boot_len (Zaa (pv 3) Zab)) (Zav _)))).pt (Zac (Zak (i:=6) nd rfl (Or.inl rfl) (Zam h_l_size hr (by rfl) (Zaa (pv 1) (Zaa (Zam h_l_cell_at hr (by rfl) (Zaa (pv 3) (Zaa (pv 4) Zab))) Zab))))
   (Zac (Zak (i:=7) nd rfl (Or.inl rfl) (Zam h_l_rows_by hr (by rfl) (Zaa (pv 1) (Zaa (pv 3) (Zaa (Zan ZaM (pv 4) Zad) (Zaa (pv 6) (Zaa (pv 6) Zab)))))))
   (Zac (Zak (i:=4) nd rfl (Or.inl rfl) (Zan ZaM (Zan ZaM (pv 4) Zad) (Zan ZaC (pv 6) (pv 6))))
   (Zac (Zak (i:=8) nd rfl (Or.inl rfl) (Zao Zap (Zam h_l_rows_by hr (by rfl) (Zaa (pv 1) (Zaa (pv 3) (Zaa (pv 4) (Zaa Zad (Zaa (pv 6) Zab)))))) Zad (λ_ _=>rfl)))
   (Zac (Zak (i:=4) nd rfl (Or.inl rfl) (Zan ZaM (pv 4) (pv 6)))
   (Zac (ZaB (Zb6 (ZaF (Zam h_l_least hr (by rfl) (Zaa (pv 2) (Zaa (pv 1) (Zaa (pv 7) (Zaa (pv 8) Zab))))))) (Zae (Zal Zdr)) Zat)
   (Zac (Zbz (i:=9) ["_law_k"] [(1,"_law_prime_here")] nd rfl rfl rfl (ZaE (by rfl) T.range (Zaa (Zan Zbe (pv 6) Zad) Zab)) (by exact λ_ _ _ _=>(Zaq (i:=0) (show (["_law_k","_law_prime_here"]:List Str).Nodup by decide +kernel) rfl (Or.inl rfl))) (by exact λ_ _ _ _=>(Zam h_l_make hr (by rfl) (Zaa (pv 1) (Zaa Zad Zab)))) ⟨⟨rfl,rfl,Or.inl rfl⟩,trivial⟩)
   (Zac (Za2 PassesOwn.never rfl (ZaD (ZaN (Zaa (pv 9) (Zaa (pv 8) Zab)))) (Zaq (i:=10) nd rfl (Or.inl rfl)) (Zae (ZaB (Zkj (Zar ZfR (pv 6) Zad (Zav _)) (Zh3 (Zb6 (ZaF (Zam h_l_refused hr (by rfl) (Zaa (pv 2) (Zaa (ZaS Zbg (pv 7) (Za5 Zad) Zbr) (Zaa (pv 10) Zab)))))))).pt (Zae (Zal Zdr)) Zat)))
   (Zac (Zbz (i:=9) ["_law_k"] [(1,"_law_prime_here")] nd rfl rfl rfl (ZaE (by rfl) T.range (Zaa (Zan ZaM (pv 6) Zad) Zab)) (by exact λ_ _ _ _=>(Zaq (i:=0) (show (["_law_k","_law_prime_here"]:List Str).Nodup by decide +kernel) rfl (Or.inl rfl))) (by exact λ_ _ _ _=>(Zam h_l_make hr (by rfl) (Zaa (pv 1) (Zaa Zad Zab)))) ⟨⟨rfl,rfl,Or.inl rfl⟩,trivial⟩)
   (Zac (Za2 PassesOwn.never rfl (ZaD (ZaN (Zaa (Zan ZkD (pv 8) (ZaN (Zaa (Zam h_l_make hr (by rfl) (Zaa (pv 1) (Zaa Zad Zab))) Zab))) (Zaa (pv 9) (Zaa (ZaS Zbg (pv 9) Zbr (Za5 (Zds ZbT Zad))) (Zaa (ZaS Zbg (pv 8) Zbr (Za5 (Zds ZbT Zad))) Zab)))))) (Zaq (i:=10) nd rfl (Or.inl rfl)) (Zae (ZaB (Zb6 (ZaF (Zam h_l_refused hr (by rfl) (Zaa (pv 2) (Zaa (pv 7) (Zaa (pv 10) Zab)))))) (Zae (Zal Zdr)) Zat)))
   (Zae (ZaB (Zar (ZpU hr) (pv 5) (ZaN Zab) (Zav _)) (Zae (Zak (i:=5) nd rfl (Or.inl rfl) (ZaN (Zaa (pv 7) (Zaa (pv 8) Zab))))) Zat)))))))))))))
  (Zae (Zal (Zam h_l_least hr (by rfl) (Zaa (pv 2) (Zaa (pv 1) (Zaa (Zao Zap (pv 5) Zad (λ_ _=>rfl)) (Zaa (Zao Zap (pv 5) Zad (λ_ _=>rfl)) Zab))))))))))))),?_⟩
 refine ⟨_,rfl,a,ns,0,rfl,hS,Int.le_refl _,λc0=>?_⟩;refine ⟨c0,rfl,λH1 pr S1 pk=>?_⟩;refine ⟨_,rfl,pr,rfl,pk,λH2 kk S2 kd2=>?_⟩;obtain ⟨κ,rfl,kx2⟩:=ZpP kd2;have hS2:=ZjB hS (S1.trans S2);refine ⟨_,rfl,(by show 2<=sizeLine;decide),λl nl=>?_⟩;have Sl:=Zag nl (.lst [.int 63,.int 16]);have ql:=Zaf (H:=H2) (a:=l) (o:=.lst [.int 63,.int 16]);generalize upd H2 l (.lst [.int 63,.int 16])=H3 at *;obtain ⟨m,em,_⟩:=Zqv 63 16 (decide (V.int κ.P=V.int 0));refine ⟨_,rfl,rfl,.inr ⟨_,rfl,l,_,_,_,rfl,rfl,SqL.of ql,em,m,rfl,a,_,rfl,ZjB hS2 Sl,λca nca=>?_⟩⟩;obtain ⟨ms,es,lms⟩:=Znl ns none (some m);rw[es];have Sc:=Zag nca (.lst (ms.map V.int));have qc:=Zaf (H:=H3) (a:=ca) (o:=.lst (ms.map V.int));generalize upd H3 ca (.lst (ms.map V.int))=H4' at *;refine ⟨(by show 0<=sizeLine;decide),λf0 nf0=>?_⟩;have Sf:=Zag nf0 (.lst []);have qf:=Zaf (H:=H4') (a:=f0) (o:=.lst []);have qc:=Sf _ _ qc;generalize upd H4' f0 (.lst [])=H4 at *;have kx4:=kx2.same (Sl.trans (Sc.trans Sf));refine ⟨λmm σ H'=>LwA κ  a kk ca  H4  mm σ H',⟨_,1,f0,_,_,_,_,_,rfl,rfl,Same.refl _,∅,.inl ⟨rfl,qf⟩⟩,?_⟩;rintro mm σ H5 ⟨t,fa,z6,z7,z8,z9,z10,rfl,rfl,S5,t1,fst⟩;refine' Zru (C:=t<=63) (λkb=>?cond) ?body
 case cond =>
  refine ⟨_,rfl,rfl,_,rfl,?_⟩;refine Zbx (λz=>ZjK (kb ?_)) (λz=>?_)
  ·omega
  refine ⟨_,rfl,_,rfl,ca,_,rfl,.inl (SqL.of (S5 _ _ qc)),_,_,rfl,rfl,_,rfl,?_⟩;rw[Q2];refine Za8 (λz=>kb ?_) (λ_=>?_)
  ·have z:t<(ms.length:Int):=z;omega
  ·obtain ⟨t1',-⟩|⟨-,ta,cb,rs,R,xs,v,n,hF,tb,lR,n7,n3,qR,cv,lv,qv⟩:=fst
   ·exact absurd t1' z
   exact ⟨_,rfl,_,rfl,_,rfl,fa,_,0,_,rfl,rfl,SqL.of hF,rfl,_,rfl,fa,_,1,_,rfl,rfl,SqL.of hF,rfl,κ,kk,ta,cb,rs,R,xs,v,n,rfl,kx4.same S5,tb,lR,n7,n3,qR,cv,lv,qv,λH' _=>k H'⟩
 case body =>
 intro t63;refine ⟨_,λ_ _ h=>h,?_⟩;have qc5:=S5 _ _ qc;refine ⟨_,rfl,_,rfl,_,rfl,ca,ms,t,rfl,SqL.of qc5,⋯,λc1=>?_⟩;refine ⟨κ,c1,rfl,λH6 n S6 n1 n7 n3=>?_⟩;refine ⟨_,rfl,_,rfl,_,rfl,_,_,rfl,rfl,_,rfl,_,rfl,κ,ca,ms,t+1,n,n,rfl,S6 _ _ qc5,⋯,⋯,n7,n7,λH7 ta rs R S7 hT rx lR wd qR _ _=>?_⟩;have S57:=S6.trans S7;have nn:(n:Int)*n<=49:=by
  have:n*n<=7*7:=Qm n7 n7;have e:((n*n:Nat):Int)=(n:Int)*n:=W1 n n;omega
 have nn0:0<=(n:Int)*n:=Uu ⋯ ⋯;refine ⟨_,rfl,_,_,rfl,rfl,_,rfl,_,rfl,_,_,rfl,rfl,Zbt (Q0 (show ((n:Int)).natAbs<=7 by omega) ∅) (Q0 (show ((n:Int)).natAbs<=7 by omega) ∅),_,_,rfl,rfl,?_⟩;refine ⟨_,rfl,_,rfl,_,rfl,_,rfl,κ,ca,ms,t+1+(n:Int)*n,1,n,rfl,S57 _ _ qc5,⋯,⋯,∅,n7,λH8 D1 rs1 R1 S8 hD1 rx1 lR1 wd1 qR1 _ _=>?_⟩;obtain ⟨b0,xs0,gb,hb0,al0⟩:=rx1.get (i:=0) ⋯;have mf0:R1[0]'⋯∈R1:=Ql _;have lv:(R1[0]'⋯).length=n:=wd1 _ mf0;have qv:∀x∈R1[0]'⋯,Q12 κ x:=qR1 _ mf0;have cv:ColL κ H8 b0 xs0 (R1[0]'⋯):=⟨hb0,al0⟩;generalize R1[0]'⋯=v at *;refine ⟨D1,_,0,_,rfl,rfl,SqL.of hD1,ZaR (i:=0) gb,?_⟩;refine ⟨_,rfl,_,rfl,_,_,rfl,rfl,?_⟩;have S58:=S57.trans S8;have S48:=S5.trans S58;have lr:=rx.1;have tb:TabL κ H8 ta rs R n:=⟨S8 _ _ hT,rx.same S8,wd,⋯,⋯,⋯⟩;refine ⟨_,rfl,_,rfl,_,rfl,_,rfl,κ,kk,ta,b0,rs,R,xs0,v,n,rfl,kx4.same S48,tb,lR,n7,n3,qR,cv,lv,qv,λHb Sb=>⟨_,rfl,Zdt ?_⟩⟩;have S4b:=S48.trans Sb;have S5b:=S58.trans Sb;have tbb:=tb.same Sb;have cvb:=cv.same Sb;have fst:(t=1/\Hb fa=some (.lst []))\/Fst κ Hb fa:=fst.elim (λz => .inl ⟨z.1,S5b _ _ z.2⟩) λz => .inr (z.2.same S5b);clear S58 S57 S48 tb cv;refine ⟨_,rfl,_,_,rfl,rfl,_,rfl,⋯,⋯,?_⟩;rw[show ((n:Int)-1).toNat=n-1 by omega];refine Zbc (lo:=0) (n:=n-1) (λq ys Hc=>Same Hb Hc/\AllG (NR κ Hc) ys (List.replicate q 0)) ⋯ ⟨Same.refl _,.nil⟩ ?_ ?_
 ·rintro q ys Hc hq _ ⟨Sc',e3⟩;refine ⟨_,rfl,κ,0,0,rfl,ZfW,λHd u Sd nu=>⟨Sc'.trans Sd,?_⟩⟩;rw[List.replicate_succ'];exact (e3.mono λ_ _ n=>n.same Sd).append (.one nu)
 rintro ys0 Hc _ ⟨Sc',e0⟩ no nno;have Sno:=Zag nno (.lst ys0);have cno:ColL κ (upd Hc no (.lst ys0)) no ys0 (List.replicate (n-1) 0):=⟨Zaf,e0.mono λ_ _ n=>n.same Sno⟩;generalize upd Hc no (.lst ys0)=Hd at *;have Sbd:=Sc'.trans Sno;refine ⟨_,rfl,_,rfl,(by show 2<=sizeLine;decide),λp3 np3=>?_⟩;have Sp3:=Zag np3 (.lst [.ref no,.ref b0]);have qp3:=Zaf (H:=Hd) (a:=p3) (o:=.lst [.ref no,.ref b0]);generalize upd Hd p3 (.lst [.ref no,.ref b0])=Hg at *;have Sbg:=Sbd.trans Sp3;have wr:∀(i:Nat) (x:V),([V.ref no,V.ref b0]:List V)[i]?=some x->∃(b:Addr) (ys:List V) (u:ZZlk κ),x=V.ref b/\ColL κ Hg b ys u:=λi x hx=>by
  have mx:=Qc hx
  simp only[Qe,Uk,or_false] at mx
  rcases mx with rfl|rfl
  ·exact ⟨no,_,_,rfl,cno.same Sp3⟩
  ·exact ⟨b0,_,_,rfl,cvb.same Sbg⟩
 refine ⟨p3,rfl,⟨_,SqL.of qp3⟩,?_⟩;refine ZbV (K:=K) (a:=p3) (xs:=[V.ref no,.ref b0]) (λi σ Hh=>∃z10:Option V,σ=[some (.ref a),some (.int κ.P),some (.ref kk),some (.ref ca),some (.int (t+1+(n:Int)*n+(n:Int))),some (.ref fa),some (.int (n:Int)),some (.ref ta),some (.ref b0),some (.ref no),z10]/\Same Hg Hh) ⟨_,rfl,Same.refl _⟩ ?_ ?_ ?_
 ·rintro i σ Hh-⟨z10,rfl,Sh⟩;exact SqL.of (Sh _ _ qp3)
 ·rintro i x σ Hh hx ⟨z10,rfl,Sh⟩;obtain ⟨b,ws,u,rfl,cb⟩:=wr i x hx;refine ⟨_,rfl,_,_,rfl,rfl,_,rfl,?_⟩;refine Za8 (λz=>?_) (λ_=>Zdt ⟨_,rfl,Sh⟩);have z:(1:Int)<(n:Int):=z;have Sbh:=Sbg.trans Sh;refine ⟨_,rfl,_,rfl,_,rfl,ta,_,rfl,SqL.of (Sbh _ _ tbb.l),λsl nsl=>?_⟩;rw[show ZeL (rs.map V.ref) (some 1) none=(rs.drop 1).map V.ref by rw[List.map_drop];exact Zfz _ 1];have Ss:=Zag nsl (.lst ((rs.drop 1).map V.ref));have qs:=Zaf (H:=Hh) (a:=sl) (o:=.lst ((rs.drop 1).map V.ref));generalize upd Hh sl (.lst ((rs.drop 1).map V.ref))=Hi at *;have Sbi:=Sbh.trans Ss;have lt:(R.drop 1).length=n-1:=by rw[W7];omega
  have tbT:TabL κ Hi sl (rs.drop 1) (R.drop 1) n:=⟨qs,(tbb.r.same Sbi).dropK 1,λf hf=>wd f (List.mem_of_mem_drop hf),⋯,⋯,⋯⟩;exact ⟨_,rfl,κ,kk,sl,b,_,_,ws,u,n,rfl,kx4.same (S4b.trans Sbi),tbT,cb.same (Sh.trans Ss),.inl ⋯,λHj Sj=>⟨_,rfl,Zdt ⟨_,rfl,Sh.trans (Ss.trans Sj)⟩⟩⟩
 rintro σ Hh ⟨z10',rfl,Sh⟩;have Sbh:=Sbg.trans Sh;refine ⟨_,rfl,_,_,rfl,rfl,_,rfl,⋯,⋯,?_⟩;rw[show ((n:Int)+1).toNat=n+1 by omega];refine Zbc (lo:=0) (n:=n+1) (λq ys Hc=>Same Hh Hc/\AllG (NR κ Hc) ys (List.replicate q 0)) ⋯ ⟨Same.refl _,.nil⟩ ?_ ?_
 ·rintro q ys Hc hq _ ⟨Sc',e3⟩;refine ⟨_,rfl,κ,0,0,rfl,ZfW,λHd u Sd nu=>⟨Sc'.trans Sd,?_⟩⟩;rw[List.replicate_succ'];exact (e3.mono λ_ _ n=>n.same Sd).append (.one nu)
 rintro ys1 Hi _ ⟨Si,e1⟩ wo nwo;have Swo:=Zag nwo (.lst ys1);have cwo:ColL κ (upd Hi wo (.lst ys1)) wo ys1 (List.replicate (n+1) 0):=⟨Zaf,e1.mono λ_ _ n=>n.same Swo⟩;generalize upd Hi wo (.lst ys1)=Hj at *;have Sbj:=Sbh.trans (Si.trans Swo);have cvj:=cvb.same Sbj;have lx0:=cvj.al.1;have lw:=cwo.al.1;rw[Wa] at lw;refine ⟨_,rfl,_,rfl,κ,1,1,rfl,ZdL,λHk v1 Sk nv1=>⟨(by show 1<=sizeLine;decide),λs2 ns2=>?_⟩⟩;have Ss2:=Zag ns2 (.lst [v1]);have qs2:=Zaf (H:=Hk) (a:=s2) (o:=.lst [v1]);have nv1:=nv1.same Ss2;generalize upd Hk s2 (.lst [v1])=Hl at *;have Sjl:=Sk.trans Ss2;refine ⟨b0,s2,_,_,rfl,rfl,Sjl _ _ cvj.l,qs2,?_,λs3 ns3=>?_⟩
 ·exact Q0 (show xs0.length+1<=1000 by omega) ∅
 have Ss3:=Zag ns3 (.lst (xs0++[v1]));have c1':ColL κ (upd Hl s3 (.lst (xs0++[v1]))) s3 (xs0++[v1]) (v++[1]):=⟨Zaf,((cvj.al.mono λ_ _ n=>n.same (Sjl.trans Ss3))).append (.one (nv1.same Ss3))⟩;generalize upd Hl s3 (.lst (xs0++[v1]))=Hm at *;have Sjm:=Sjl.trans Ss3;refine ⟨_,rfl,_,rfl,_,rfl,_,rfl,wo,_,rfl,SqL.of (Sjm _ _ cwo.l),λs4 ns4=>?_⟩;rw[Zqw];have Ss4:=Zag ns4 (.lst (ys1.take (ys1.length-2)));have c2:ColL κ (upd Hm s4 (.lst (ys1.take (ys1.length-2)))) s4 (ys1.take (ys1.length-2)) ((List.replicate (n+1) 0).take (ys1.length-2)):=⟨Zaf,Zbv ((cwo.same Sjm).al.mono λ_ _ n=>n.same Ss4) _⟩;generalize upd Hm s4 (.lst (ys1.take (ys1.length-2)))=Hn at *;refine ⟨_,rfl,_,rfl,_,rfl,b0,_,rfl,SqL.of ((Sjm.trans Ss4) _ _ cvj.l),λs5 ns5=>?_⟩;rw[ZlG];have Ss5:=Zag ns5 (.lst (xs0.take (xs0.length-1)));have c3:ColL κ (upd Hn s5 (.lst (xs0.take (xs0.length-1)))) s5 (xs0.take (xs0.length-1)) (v.take (xs0.length-1)):=⟨Zaf,Zbv ((cvj.same (Sjm.trans Ss4)).al.mono λ_ _ n=>n.same Ss5) _⟩;generalize upd Hn s5 (.lst (xs0.take (xs0.length-1)))=Ho at *;refine ⟨(by show 4<=sizeLine;decide),λp4 np4=>?_⟩;have Sp4:=Zag np4 (.lst [.ref s3,.ref wo,.ref s4,.ref s5]);have qp4:=Zaf (H:=Ho) (a:=p4) (o:=.lst [.ref s3,.ref wo,.ref s4,.ref s5]);generalize upd Ho p4 (.lst [.ref s3,.ref wo,.ref s4,.ref s5])=Hp' at *;have Smp:=Ss4.trans (Ss5.trans Sp4);have Sbp:=Sbj.trans (Sjm.trans Smp);have wr2:∀(i:Nat) (x:V),([V.ref s3,V.ref wo,V.ref s4,V.ref s5]:List V)[i]?=some x->∃(b:Addr) (ys:List V) (u:ZZlk κ),x=V.ref b/\ColL κ Hp' b ys u/\u.length≠n:=λi x hx=>by
  have mx:=Qc hx
  simp only[Qe,Uk,or_false] at mx
  rcases mx with rfl|rfl|rfl|rfl
  ·exact ⟨s3,_,_,rfl,c1'.same Smp,by rw[Qg,lv];show n+1≠n;omega⟩
  ·exact ⟨wo,_,_,rfl,cwo.same (Sjm.trans Smp),by rw[Wa];omega⟩
  ·exact ⟨s4,_,_,rfl,c2.same (Ss5.trans Sp4),by rw[Qa,Wa];omega⟩
  ·exact ⟨s5,_,_,rfl,c3.same Sp4,by rw[Qa];omega⟩
 refine ⟨p4,rfl,⟨_,SqL.of qp4⟩,?_⟩;refine ZbV (K:=K) (a:=p4) (xs:=[V.ref s3,.ref wo,.ref s4,.ref s5]) (λi σ Hq=>∃z10:Option V,σ=[some (.ref a),some (.int κ.P),some (.ref kk),some (.ref ca),some (.int (t+1+(n:Int)*n+(n:Int))),some (.ref fa),some (.int (n:Int)),some (.ref ta),some (.ref b0),some (.ref wo),z10]/\Same Hp' Hq) ⟨_,rfl,Same.refl _⟩ ?_ ?_ ?_
 ·rintro i σ Hq-⟨z10,rfl,Sq⟩;exact SqL.of (Sq _ _ qp4)
 ·rintro i x σ Hq hx ⟨z10,rfl,Sq⟩;obtain ⟨b,ws,u,rfl,cb,lu⟩:=wr2 i x hx;have Sbq:=Sbp.trans Sq;exact ⟨_,rfl,_,rfl,_,rfl,κ,kk,ta,b,rs,R,ws,u,n,rfl,kx4.same (S4b.trans Sbq),tbb.same Sbq,cb.same Sq,.inr (by rw[lR];exact lu),λHr Sr=>⟨_,rfl,Zdt ⟨_,rfl,Sq.trans Sr⟩⟩⟩
 rintro σ Hq ⟨z10'',rfl,Sq⟩;have Sbq:=Sbp.trans Sq;have S4q:=S4b.trans Sbq;have lt:(200-(t+1+(n:Int)*n+(n:Int))).toNat<(200-t).toNat:=⋯;refine ⟨_,rfl,(by show 0<=sizeLine;decide),λe0' ne0=>?_⟩;have Se:=Zag ne0 (.lst []);have qe:=Zaf (H:=Hq) (a:=e0') (o:=.lst []);generalize upd Hq e0' (.lst [])=Hr at *;have Sbr:=Sbq.trans Se;have S4r:=S4q.trans Se;rcases fst with ⟨-,hf⟩|fk
 ·refine ⟨fa,e0',[],rfl,rfl,Sbr _ _ hf,qe,_,rfl,?_⟩;refine Za8 (λ_=>?_) (λz=>absurd rfl z);refine ⟨_,rfl,_,rfl,(by show 2<=sizeLine;decide),λpf npf=>?_⟩;have Spf:=Zag npf (.lst [.ref ta,.ref b0]);exact ⟨_,lt,t+1+(n:Int)*n+(n:Int),pf,_,_,_,_,_,rfl,rfl,S4r.trans Spf,⋯,.inr ⟨⋯,ta,b0,rs,R,xs0,v,n,Zaf,tbb.same (Sbr.trans Spf),lR,n7,n3,qR,cvb.same (Sbr.trans Spf),lv,qv⟩⟩
 ·have fr:=fk.same Sbr;obtain ⟨ta',ca',-,-,-,-,-,hf,-⟩:=id fr;refine ⟨fa,e0',_,rfl,rfl,hf,qe,_,rfl,?_⟩;refine Za8 (λz=>absurd (show (2:Nat)=0 from z) ∅) (λ_=>?_);exact ⟨_,lt,t+1+(n:Int)*n+(n:Int),fa,_,_,_,_,_,rfl,rfl,S4r,⋯,.inr ⟨⋯,fr⟩⟩
end
section
variable{P:Program}{w:World}{K:ZZfg}{mg:ZZmg}{base:Heap}{CF CR cF cN:Addr}
theorem Zma(kd:Kd K mg CF CR)(hF:HasMX P w K mg base CF "number" 3 ["self","top","bottom"] [] Zb5) (hR:HasMX P w K mg base CR "number" 3 ["self","top","bottom"] [] (ZbF CR cN)):Zjs P w K mg base CF CR:=by
 intro κ H s hk
 cases κ with
 |q =>
  obtain ⟨dx,h⟩:=hk;refine ⟨CF,dx,[],_,_,_,h,kd.clF,hF,rfl,rfl,λH' b y Q E S hy b0 bl _ k=>⟨s,1,b,rfl,b0,bl,λr x z nr fc e=>?_⟩⟩;have e1:Rat.num y=b:=hy.1;have e2:Rat.den y=1:=hy.2;obtain ⟨i1,i2⟩:=Zlb (q:=y) fc (by rw[e1,e2,e];rfl);refine k _ _ (Zag nr _) ⟨r,rfl,?_⟩;show upd H' r _ r=some (.tup [.int (Fd.inv y:Rat).num,.int ((Fd.inv y:Rat).den:Int)]);rw[i1,i2];exact Zaf
 |r p hp =>
  obtain ⟨dx,h⟩:=hk;have h2:=hp.pr.1;refine ⟨CR,dx,_,_,_,_,h,kd.clR,hR,Zc7 p ∅,rfl,λH' b y Q E S hy b0 bl b1 k=>?_⟩;have b1:=b1 (λz=>nomatch z);subst b1;refine ⟨s,p,1,1,rfl,⟨dx,S _ _ h⟩,hp.pr,by have:=hp.lt;omega,∅,∅,λz=>?_,λ_ H'' r S' r0 r1 rd=>?_⟩
  ·have:=Int.le_of_dvd ∅ z;omega
  ·refine k _ H'' S' ?_;have ey:y=K1 (.r p hp):=hy.uniq ZdL;subst ey;have ei:(KX.r p hp).invF (K1 (.r p hp))=K1 (.r p hp):=by
    have:(KX.r p hp).mulF (K1 (.r p hp)) (K1 (.r p hp))=K1 (.r p hp):=Zjr;exact (ZhH this).symm
   show V.int r=V.int ((Fin.val ((KX.r p hp).invF (K1 (.r p hp))):Nat):Int);rw[ei,ZgM]
   congr 1
   rw[Uq] at rd;have e3:r%p=1%p:=Int.emod_eq_emod_iff_emod_sub_eq_zero.mpr (Uc rd);rw[Ul r0 r1,Ul ∅ ⋯] at e3;exact e3
end
end My
local macro_rules | `(universe $_) => do
  let b := `PySem.Challenge.cw_turnframe_k45_least_of_holds
  let r := ((Array.range 798).map fun i => Lean.Name.str b s!"o_{i+43}") ++ (#["tree_232","tree_167","heap_39","sts_834","sts_168","heap_841","tree_584","sts_585","sts_101","tree_362","sts_153","tree_840","sts_277","sts_116","tree_100","env_41","tree_439","sts_661","tree_182","tree_70","tree_833","sts_71","tree_115","sts_363","tree_746","sts_131","tree_130","tree_152","sts_233","sts_747","sts_512","tree_47","tree_85","sts_49","tree_660","sts_440","heap_46","tree_276","sts_183","view_39","tree_511","sts_86"]).map (Lean.Name.str b)
  let c ← (r.push `PySem.Challenge.pw_turnframe_k45_least_of).mapM fun n => let i := Lean.mkIdent (.str `PySem.W.Fast s!"tw{n.hash}"); `(theorem $i : True := trivial)
  return Lean.mkNullNode c
universe u
namespace My
open PySem L2 PyProof.Rows
structure Defs (K:ZZfg) (mg:ZZmg) (CF CR CP CE cK cN cF cT cI cX cM cR:Addr):Prop where
 T:Nm mg
 kd:Kd K mg CF CR
 pc:Pc K mg CP
 R:Rf K mg CE cK cN cF cT cI cX cM cR
 Z:Rz K mg "NoFit" CE cF [cK,cN,cT,cI,cX,cM,cR]
 xn:ExcC K mg "NoNumber" cN
 nz:mg "zip"=none
 nsu:mg "sum"=none
 nmx:mg "max"=none
 nmn:mg "min"=none
 nrv:mg "reversed"=none
 d1:Here K mg "divisor" Zfh
 d2:Here K mg "is_whole" Zeg
 d3:Here K mg "is_prime" Zeh
 d4:Here K mg "shares" Zgt
 d5:Here K mg "less_times" ZcZ
 c1:Here K mg "scaled_row" Zc2
 c2:Here K mg "column_at" ZdC
 c3:Here K mg "sums_with" ZdD
 c4:Here K mg "is_square" ZdB
 c5:Here K mg "need_square" ZcE
 c6:Here K mg "scaled" Zgv
 c7:Here K mg "evenly_freed" Zci
 c8:Here K mg "product_number" Zbl
 c9:Here K mg "corner_numbers" ZbR
 c10:Here K mg "falling_numbers" ZbE
 c11:Here K mg "great" Zid
 c12:Here K mg "plus_row" Zei
 c21:Here K mg "image" Zic
 c22:Here K mg "need_column" ZcI
 c23:Here K mg "climbed" Zfk
 c31:Here K mg "trimmed" Zfi
 c32:Here K mg "divided" Zfj
 c34:Here K mg "raised" Zgw
 c35:Here K mg "following_row" Zb1
 c36:Here K mg "common_row" Zcb
 c37:Here K mg "bottom_factor" Zb2
 c38:Here K mg "common_part" ZcH
 c39:Here K mg "turned" Zgu
 c40:Here K mg "tops_over" ZdE
 c41:Here K mg "least_within" Zcj
 c42:Here K mg "least_of" Zej
 l1:Here K mg "_law_whole" Zfl
 l2:Here K mg "_law_divisor" ZdF
 l3:Here K mg "_law_is_prime" Zc4
 l4:Here K mg "_law_prime" Zfm
 l5:Here K mg "_law_kind" Zgx
 l6:Here K mg "_law_fraction" Zc6
 l7:Here K mg "_law_prime_by" Zc5
 l8:Here K mg "_law_make" Zgy
 l9:Here K mg "_law_is_number" ZcJ
 l10:Here K mg "_law_drawn" Zfp
 l11:Here K mg "_law_plus" Zgz
 l12:Here K mg "_law_times" Zfn
 l13:Here K mg "_law_minus" Zfo
 l14:Here K mg "_law_image" Zfq
 l15:Here K mg "_law_ranked" Zel
 l18:Here K mg "_law_size" ZgA
 l19:Here K mg "_law_least" Zfr
 l20:Here K mg "_law_chained" ZdJ
 l21:Here K mg "_law_spoil" ZdX
 l27:Here K mg "_law_is_row" Zek
 l28:Here K mg "_law_cell_at" ZdG
 l29:Here K mg "_law_rows_by" ZdH
 l30:Here K mg "_law_refused" ZdI
 m1:HereM K CF "plus" "Fractions.plus" ZbN
 m2:HereM K CF "minus" "Fractions.minus" ZbB
 m3:HereM K CF "back" "Fractions.back" ZbO
 m4:HereM K CF "times" "Fractions.times" ZbC
 m5:HereM K CF "is_nought" "Fractions.is_nought" Za9
 m6:HereM K CF "common_bottom" "Fractions.common_bottom" ZaP
 m7:HereM K CF "sum_of_products" "Fractions.sum_of_products" ZaH
 m8:HereM K CF "over" "Kind.over" ZcB
 r1:HereM K CR "plus" "Rests.plus" Zc0
 r2:HereM K CR "minus" "Rests.minus" ZcC
 r3:HereM K CR "back" "Rests.back" Zc1
 r4:HereM K CR "times" "Rests.times" ZcD
 r5:HereM K CR "is_nought" "Rests.is_nought" ZbD
 r6:HereM K CR "common_bottom" "Kind.common_bottom" Zbh
 r7:HereM K CR "sum_of_products" "Rests.sum_of_products" ZaY
 r8:HereM K CR "over" "Kind.over" ZcB
 p1:HereM K CP "times" "Polys.times" ZcG
 p2:HereM K CP "plus" "Polys.plus" Zc3
 p3:HereM K CP "minus" "Polys.minus" ZcF
 n1:∃tk,HereD K CF "number" "Fractions.number" ZaO #[.int 1 tk]
 n2:∃tk,HereD K CR "number" "Rests.number" Zbj #[.int 1 tk]
 i1:HereI K CR "Rests.__init__" ZbP
 i2:HereI K CP "Polys.__init__" ZbQ
 lw:Here K mg "law" Zoy
theorem all_mk{l:PySem.W.OpenLaw}{w:World}{K:ZZfg}{mg:ZZmg}{fa CF CR CP CE cK cN cF cT cI cX cM cR:Addr}(hfa:mg "law" = some (.ref fa)) (D:Defs K mg CF CR CP CE cK cN cF cT cI cX cM cR) :
    ∃fd:FuncData,(∀(s:Shared) (v:Value),BindsTo s fd ⟨[v],[]⟩ [("_law_script", v)])/\∀base:Heap,K.In base->base.Ns mainGlobals mg->FnOk l.prog w K mg base CX0 15 fa fd ["_law_script"] (sp_law K):=by
  obtain ⟨f,fd,F,m⟩:=D.lw.ex;have e:=hfa.symm.trans m
  cases e
  refine ⟨fd,?_,λbase _ _=>?_⟩
  · obtain ⟨oc,od,kV,doc,pm,an,cdv,ct,osl,rfl,lk,hcd⟩:=F.ex
    exact λs v => .of_eq rfl
  · have T:=D.T
    have kd:=D.kd;obtain ⟨tk0,n1⟩:=D.n1;obtain ⟨tk1,n2⟩:=D.n2;have g1:Has l.prog w K mg base "divisor" 1 _ _:=ZjQ D.d1 T;have g2:Has l.prog w K mg base "is_whole" 1 _ _:=Zif D.d2 T;have g3:Has l.prog w K mg base "is_prime" 1 _ _:=Zig D.d3 T;have g5:Has l.prog w K mg base "less_times" 1 _ _:=ZgD D.d5;have g4:=ZkY D.d4 g5;have ai:=Zmw D.i1 kd.clR kd.nP g2 g3;have a1:=Zk2 D.m1 g1;have a2:=ZjV D.m2 kd.clF a1;have a3:HasMX l.prog w K mg base CF "back" 1 _ _ _:=Zmz D.m3 D.xn;have a4:=ZjT D.m4 g1;have a5:HasM l.prog w K mg base CF "is_nought" 1 _ _ _:=ZjW D.m5;have a6:=Ziv D.m6 g1;have a7:=Zik n1 D.xn g1;have a8:=Zix n1 D.xn g1;have a9:=ZmM D.m7 kd.clF D.nz a6 a8;have b1:HasM l.prog w K mg base CR "plus" 1 _ _ _:=Zmy D.r1 kd.clR kd.nP;have b2:HasM l.prog w K mg base CR "minus" 1 _ _ _:=Zk4 D.r2 kd.clR kd.nP;have b7:=Zil n2 kd.clR kd.nP D.xn g4;have b8:=ZjU n2 kd.clR kd.nP D.xn g4;have b3:=ZmA D.r3 kd.clR b8;have b4:HasM l.prog w K mg base CR "times" 1 _ _ _:=Zk3 D.r4 kd.clR kd.nP;have b5:HasM l.prog w K mg base CR "is_nought" 1 _ _ _:=ZjX D.r5;have b6:HasM l.prog w K mg base CR "common_bottom" 1 _ _ _:=Zj4 D.r6;have b9:HasM l.prog w K mg base CR "sum_of_products" 3 _ _ _:=ZmN D.r7 kd.clR kd.nP D.nz D.nsu;have mp:=Zk5 kd a1 (b1.mono ∅);have mt:=ZjY kd a4 (b4.mono ∅);have mz:=Zis kd (a5.mono ∅) (b5.mono ∅);have mm:=Zj0 kd a2 (b2.mono ∅);have mn:=Zip kd (a7.mono ∅) b7;have mb:=Zld kd (a3.mono ∅) b3;have mo:=Ziw kd a6 (b6.mono ∅);have md:=ZmO kd a9 b9;have mc:=Zma kd (a8.mono ∅) b8;have c1:=ZfX D.c1 mt;have c2:Has l.prog w K mg base "column_at" 1 _ _:=ZiD D.c2;have c3:=Zlr D.c3 md;have c4:Has l.prog w K mg base "is_square" 1 _ _:=ZgY D.c4 T;have c5:=ZfE D.c5 D.Z.c c4;have c6:=Zj5 D.c6 c1;have c7:=ZeV D.c7 mn mo c6;have c8:=ZeA D.c8 T D.nmx D.nmn md;have c9:=ZeB D.c9 T mn mm md (c2.mono ∅) c3;have c10:=Zd8 D.c10 T mn c9 (c8.mono ∅);have c11:=ZmX D.c11 T D.nrv mc mt (c5.mono ∅) (c7.mono ∅) c10;have c12:=ZhJ D.c12 D.nz mp;have c21:=ZlY D.c21 T D.Z.c c3;have c22:=Zf5 (P:=l.prog) (w:=w) (base:=base) D.c22 T D.Z.c;have c23:=Zkb D.c23 D.nrv mn (c12.mono ∅) c21 (c1.mono ∅);have pc:=D.pc;have mv:=ZlR kd (Zjy D.m8 mt mb) (Zjy D.r8 mt mb);have c31:=Zj9 D.c31 T mz;have c32:=Zka D.c32 T D.nrv D.xn mb mt mm (c31.mono ∅);have c33:=Zql D.c8 T D.nmx D.nmn md;have hI:HasI l.prog w K mg base CP 1 _ _:=Zm7 D.i2 pc;have p1:=ZlO D.p1 T pc (c31.mono ∅) c33;have p2:=Zm8 D.p2 T D.nz pc mp (c31.mono ∅);have p3:=ZlP D.p3 T pc mm mn p2;have c34:=ZlS D.c34 T mn mt;have c35:=ZlT D.c35 T D.nz pc hI mt mb (p1.mono ∅) p3 (c34.mono ∅) (c32.mono ∅);have e0:Has l.prog w K mg base "common_row" 0 _ _:=Zrn D.c36;have e1:=ZlW (j:=8) ∅ D.c36 T pc hI mn mb mv (p1.mono ∅) (c34.mono ∅) (c35.mono ∅) (e0.mono ∅);have e2:=ZlW (j:=9) ∅ D.c36 T pc hI mn mb mv (p1.mono ∅) (c34.mono ∅) (c35.mono ∅) e1;have c37:=ZoZ D.c37 mn mo;have c38:=Zf3 D.c38 pc hI (p1.mono ∅) (c37.mono ∅) e2;have c39:=ZiN D.c39 T c2;have c40:=ZhX D.c40 T D.nrv (c39.mono ∅) (c23.mono ∅) (c31.mono ∅);have c41:=ZfP D.c41 T (c40.mono ∅) c38 (c32.mono ∅);have c42:=ZiP D.c42 (c5.mono ∅) (c22.mono ∅) (c11.mono ∅) c41;have w1:Has l.prog w K mg base "_law_whole" 1 _ _:=ZjS D.l1 T;have w2:Has l.prog w K mg base "_law_divisor" 1 _ _:=ZhG D.l2 T;have w3:Has l.prog w K mg base "_law_is_prime" 1 _ _:=ZgB D.l3;have w4:=ZiQ D.l4 w3;have w5:=Zl4 D.l5 kd ai;have w6:=Zl0 D.l6 w2;have w7:=Zhb D.l7 w4;have w8:Has l.prog w K mg base "_law_make" 1 _ _:=Zl2 D.l8;have w9:=Zf7 D.l9 T w1 w2;have w10:=ZiS D.l10 w6;have w11:=Zkd D.l11 w6;have w12:=ZiR D.l12 w6;have w13:=ZhY D.l13 (w8.mono ∅) w11 w12;have w27:=Zhc D.l27 T w9;have w28:Has l.prog w K mg base "_law_cell_at" 1 _ _:=Zh0 D.l28 T;have w29:=Zh1 D.l29 T w10 (w28.mono ∅);have w18:Has l.prog w K mg base "_law_size" 1 _ _:=ZiT D.l18;have w14:=Zkg D.l14 T (w8.mono ∅) w11 w12;have w15:=ZiW D.l15 T (w8.mono ∅) (w12.mono ∅) w13;have w20:=Zh2 D.l20 T w14;have w30:=Zf8 D.l30 T D.R D.Z c42;have f0:Has l.prog w K mg base "_law_spoil" 0 _ _:=Zqs D.l21;have f3:=ZeI D.l21 T (ZeI D.l21 T (ZeI D.l21 T f0));have w19:=Zkh D.l19 T c42 (f3.mono ∅) (w27.mono ∅) (w8.mono ∅) (w11.mono ∅) (w12.mono ∅) (w20.mono ∅) (w15.mono ∅);exact Zqx F T (w7.mono ∅) (w5.mono ∅) (w28.mono ∅) (w18.mono ∅) (w29.mono ∅) (w8.mono ∅) w19 w30
theorem walk{l:PySem.W.OpenLaw}{q:Program}{loose:List Str}{XP:(Str->Option Value)->Heap->Prop}{YP:World->Heap->Prop}{d:DefRec}{K:Params->ZZfg}(hn:l.most=some 63)(hdf:d.params.defaults=[])
    (hY:∀(w:World) (h:Heap),YP w h->(K w.params).In h)
    (F:∀(w:World) (mg:ZZmg) (fa:Addr) (h:Heap),(K w.params).In h->h.Ns mainGlobals mg->mg d.name=some (.ref fa) →
      ∃fd:FuncData,(∀(s:Shared) (u:Value),BindsTo s fd ⟨[u],[]⟩ [("_law_script", u)])/\∀base:Heap,(K w.params).In base->base.Ns mainGlobals mg->FnOk l.prog w (K w.params) mg base CX0 15 fa fd ["_law_script"] (sp_law (K w.params))) :
    PySem.W.WalkO q loose XP YP l.row.toRowW d [] (λf vs=>PySem.call f vs) :=
  L2.walk_ofB (n:=63) (k:=15) (x := "_law_script") (CX:=λ_=>CX0) (sp:=λw=>sp_law (K w.params)) hn ∅ hdf ⟨rfl,∅,∅⟩ hY F (λ_ _ a ns hl hb _ hS=>⟨a,ns,rfl,hS,hl,hb,λ_=>rfl⟩) λ_ _ _ _ _ z=>z
theorem kd_mk{K:ZZfg}{h:Heap}{mg:ZZmg}{CF CR:Addr}(X:K.In h)(G:h.Ns mainGlobals mg)(aF:PySem.W.nsIn K mainGlobals "Fractions" = some (some (.ref CF))) (aR:PySem.W.nsIn K mainGlobals "Rests" = some (some (.ref CR)))
    (p1:PySem.W.plainGet K CF Str.empty=true) (p2:PySem.W.hasDictIn K CF=true) (p3:PySem.W.plainOver K CF=true) (p4:PySem.W.findIn K (.ref CF) "__setattr__" = some (some (.builtin "object.__setattr__")))
    (q1:PySem.W.plainGet K CR Str.empty=true) (q2:PySem.W.hasDictIn K CR=true) (q3:PySem.W.plainOver K CR=true) (q4:PySem.W.findIn K (.ref CR) "__setattr__" = some (some (.builtin "object.__setattr__")))
    (nP:PySem.W.findIn K (.ref CR) "prime" = some none) (mk:PySem.W.makesIn K CF=true) (mi:PySem.W.findIn K (.ref CF) "__init__" = some (some (.builtin "object.__init__"))) (kp:PySem.W.keepIn K (.ref CF)=true):Kd K mg CF CR :=
  ⟨⟨p1,p2,p3,p4⟩,⟨q1,q2,q3,q4⟩,nP,⟨mk,mi,kp⟩,PySem.W.mg_of X G aF,PySem.W.mg_of X G aR⟩
theorem pc_mk{K:ZZfg}{h:Heap}{mg:ZZmg}{CP:Addr}(X:K.In h)(G:h.Ns mainGlobals mg)(a:PySem.W.nsIn K mainGlobals "Polys" = some (some (.ref CP)))
    (q1:PySem.W.plainGet K CP Str.empty=true) (q2:PySem.W.hasDictIn K CP=true) (q3:PySem.W.plainOver K CP=true) (q4:PySem.W.findIn K (.ref CP) "__setattr__" = some (some (.builtin "object.__setattr__")))
    (nU:PySem.W.findIn K (.ref CP) "under" = some none):Pc K mg CP:=⟨⟨q1,q2,q3,q4⟩,nU,PySem.W.mg_of X G a⟩
theorem cn_mk{K:ZZfg}{h:Heap}{mg:ZZmg}{x:Str}{C:Addr}(X:K.In h)(G:h.Ns mainGlobals mg)(a:PySem.W.nsIn K mainGlobals x=some (some (.ref C)))(b:PySem.W.isClsIn K C=true)(c:PySem.W.typeIn K (.ref C)=some (.type "type")):CN K mg x C:=⟨PySem.W.mg_of X G a,b,c⟩
theorem xcls_mk{K:ZZfg}{C:Addr}(ga:PySem.W.findIn K (.ref C) "__getattribute__" = some (some (.builtin "BaseException.__getattribute__"))) (ha:PySem.W.findIn K (.ref C) "__getattr__" = some none) (cl:PySem.W.findIn K (.ref C) "__class__" = some (some (.builtin "object.__class__")))
    (hn:PySem.W.specialIn K (.builtin "object.__class__") "__get__" = some (some (.builtin "getset_descriptor.__get__"))) (tk:PySem.W.takesIn K (.builtin "object.__class__")=some true) (ob:PySem.W.mroIn K C (.type "object")=some true) (be:PySem.W.mroIn K C (.type "BaseException")=some true) (hd:PySem.W.hasDictIn K C=true):XCls K C:=⟨ga,ha,cl,hn,tk,ob,be,hd⟩
theorem apart_cons{K:ZZfg}{C D:Addr}{r:ZZla}(a:PySem.W.mroIn K C (.ref D)=some false)(n:C≠D)(z:Zmx K C r):Zmx K C (D::r):=⟨⟨a,n⟩,z⟩
end My
open PySem PySem.W PyProof.Rows
local macro_rules | `(tactic| walk_at "xcls") => `(tactic| exact My.xcls_mk (by k_is) (by k_is) (by k_is) (by k_is) (by k_is) (by k_is) (by k_is) (by k_is))
local macro_rules | `(tactic| walk_at "apart") => `(tactic| repeat (first | exact True.intro | (refine' My.apart_cons (by k_is) ∅ ?_)))
set_option maxRecDepth 100000 in
set_option maxHeartbeats 0 in
theorem PySem.Challenge.cw_turnframe_k45_least_of_holds : PySem.Challenge.rw_turnframe_k45_least_of.Holds := by
  w_on; o_law; k_head; (case hw=>w_witness2)
  k_fill
  refine My.walk (l:=PySem.Challenge.rw_turnframe_k45_least_of) rfl rfl (λw h Y=>PySem.W.kIn_of Y) ?F
  case F =>
    intro w mg fa h KX G hmg;have kd:=by
      refine' My.kd_mk KX G ?e1 ?e2 ?e3 ?e4 ?e5 ?e6 ?e7 ?e8 ?e9 ?e10 ?e11 ?e12 ?e13 ?e14
      (case e1=>k_is); (case e2=>k_is); (case e3=>k_is); (case e4=>k_is); (case e5=>k_is); (case e6=>k_is); (case e7=>k_is)
      (case e8=>k_is); (case e9=>k_is); (case e10=>k_is); (case e11=>k_is); (case e12=>k_is); (case e13=>k_is); (case e14=>k_is)
    have pc:=by
      refine' My.pc_mk KX G ?e1 ?e2 ?e3 ?e4 ?e5 ?e6
      (case e1=>k_is); (case e2=>k_is); (case e3=>k_is); (case e4=>k_is); (case e5=>k_is); (case e6=>k_is)
    have nE:=by
      refine' My.cn_mk (x := "FrameError") KX G ?a ?b ?c
      (case a=>k_is); (case b=>k_is); (case c=>k_is)
    have nk:=by
      refine' My.cn_mk (x := "NoKind") KX G ?a ?b ?c
      (case a=>k_is); (case b=>k_is); (case c=>k_is)
    have nn:=by
      refine' My.cn_mk (x := "NoNumber") KX G ?a ?b ?c
      (case a=>k_is); (case b=>k_is); (case c=>k_is)
    have nf:=by
      refine' My.cn_mk (x := "NoFit") KX G ?a ?b ?c
      (case a=>k_is); (case b=>k_is); (case c=>k_is)
    have nt:=by
      refine' My.cn_mk (x := "NoTurn") KX G ?a ?b ?c
      (case a=>k_is); (case b=>k_is); (case c=>k_is)
    have ni:=by
      refine' My.cn_mk (x := "NoInverse") KX G ?a ?b ?c
      (case a=>k_is); (case b=>k_is); (case c=>k_is)
    have nx:=by
      refine' My.cn_mk (x := "NoText") KX G ?a ?b ?c
      (case a=>k_is); (case b=>k_is); (case c=>k_is)
    have nm:=by
      refine' My.cn_mk (x := "NoName") KX G ?a ?b ?c
      (case a=>k_is); (case b=>k_is); (case c=>k_is)
    have nr:=by
      refine' My.cn_mk (x := "NoRow") KX G ?a ?b ?c
      (case a=>k_is); (case b=>k_is); (case c=>k_is)
    have x_xn:=by
      refine' My.cn_mk (x := "NoNumber") KX G ?a ?b ?c
      (case a=>k_is); (case b=>k_is); (case c=>k_is)
    refine My.all_mk hmg ⟨?T,kd,pc,⟨nE,?eb,nk,nn,nf,nt,ni,nx,nm,nr,PySem.W.mg_none_of KX G ?ve⟩,⟨⟨?Zx,nf.m,?Zi⟩,?Ze,?Zv,?Zo⟩,⟨?xnx,x_xn.m,?xni⟩,PySem.W.mg_none_of KX G ?nz,PySem.W.mg_none_of KX G ?nsu,PySem.W.mg_none_of KX G ?nmx,PySem.W.mg_none_of KX G ?nmn,PySem.W.mg_none_of KX G ?nrv,?d1,?d2,?d3,?d4,?d5,?c1,?c2,?c3,?c4,?c5,?c6,?c7,?c8,?c9,?c10,?c11,?c12,?c21,?c22,?c23,?c31,?c32,?c34,?c35,?c36,?c37,?c38,?c39,?c40,?c41,?c42,?l1,?l2,?l3,?l4,?l5,?l6,?l7,?l8,?l9,?l10,?l11,?l12,?l13,?l14,?l15,?l18,?l19,?l20,?l21,?l27,?l28,?l29,?l30,?m1,?m2,?m3,?m4,?m5,?m6,?m7,?m8,?r1,?r2,?r3,?r4,?r5,?r6,?r7,?r8,?p1,?p2,?p3,?n1,?n2,?i1,?i2,?lw⟩
    case eb=>k_is
    case ve=>k_is
    case Zx=>walk_at "xcls"
    case Zi=>k_exc
    case Ze=>k_is
    case Zv=>k_is
    case Zo=>walk_at "apart"
    case xnx=>walk_at "xcls"
    case xni=>k_exc
    case nz=>k_is
    case nsu=>k_is
    case nmx=>k_is
    case nmn=>k_is
    case nrv=>k_is
    case T =>
      refine' My.nm_mk (PySem.W.mg_of KX G ?e1) ?e2 (PySem.W.mg_none_of KX G ?e3) (PySem.W.mg_none_of KX G ?e4) (PySem.W.mg_none_of KX G ?e5) (PySem.W.mg_none_of KX G ?e6) (PySem.W.mg_none_of KX G ?e7) (PySem.W.mg_none_of KX G ?e8) (PySem.W.mg_none_of KX G ?e9) (PySem.W.mg_none_of KX G ?e10)
      (case e1=>k_is); (case e2=>exact ⟨_,rfl⟩); (case e3=>k_is); (case e4=>k_is); (case e5=>k_is); (case e6=>k_is); (case e7=>k_is); (case e8=>k_is); (case e9=>k_is); (case e10=>k_is)
    case i1 =>
      refine' L2.hereI_mk ?e1 ?e2 ?e3 ?e4 ?e5 ?e6 ?e7
      (case e1=>k_is); (case e2=>k_is); (case e3=>k_is); (case e4=>k_is); (case e5=>k_is); (case e6=>k_is); (case e7=>k_is)
    case i2 =>
      refine' L2.hereI_mk ?e1 ?e2 ?e3 ?e4 ?e5 ?e6 ?e7
      (case e1=>k_is); (case e2=>k_is); (case e3=>k_is); (case e4=>k_is); (case e5=>k_is); (case e6=>k_is); (case e7=>k_is)
    case n1 =>
      refine' ⟨_,L2.hereD_mk ?x0a ?x0i ?x0l ?x0t ?x0c ?x0k⟩
      (case x0a=>k_is); (case x0i=>k_is); (case x0l=>k_is); (case x0t=>(apply Eq.trans; k_is; rfl)); (case x0c=>k_is); (case x0k=>k_is)
    case n2 =>
      refine' ⟨_,L2.hereD_mk ?x1a ?x1i ?x1l ?x1t ?x1c ?x1k⟩
      (case x1a=>k_is); (case x1i=>k_is); (case x1l=>k_is); (case x1t=>(apply Eq.trans; k_is; rfl)); (case x1c=>k_is); (case x1k=>k_is)
    all_goals first
      | (refine' L2.here_mk KX G ?y1 ?y2 ?y3 ?y4
         (case y1=>k_is); (case y2=>k_is); (case y3=>k_is); (case y4=>k_is))
      | (refine' L2.hereM_mk ?z1 ?z2 ?z3 ?z4 ?z5
         (case z1=>k_is); (case z2=>k_is); (case z3=>k_is); (case z4=>k_is); (case z5=>k_is))
