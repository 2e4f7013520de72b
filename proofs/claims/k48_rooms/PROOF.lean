import PyProof.Rows.All
import Wide.All
import OpenK.AllK
import Wide.FinOn
import Lean
import PyProof.EqAt
import PyProof.EqKinds
import PyProof.TupleCall
import PySem.Challenge.RW_turnframe_k48_rooms
set_option Elab.async false
set_option linter.all false
set_option maxRecDepth 100000
local macro_rules | `(tactic| omega) => `(tactic| first | lia | omega (config := {}))
local macro_rules | `(⋯) => `(by omega)
local macro_rules | `(∅) => `(by decide)
local macro_rules | `(‹2›) => `(⟨rfl,rfl,rfl,by decide +kernel,rfl,by decide +kernel,by decide +kernel⟩)
abbrev Q0:=@Nat.le_trans
abbrev Q1:=@List.length_map
abbrev Q2:=@List.getElem?_eq_getElem
abbrev Q3:=@List.getD_eq_getElem?_getD
abbrev Q4:=@Nat.le_refl
abbrev Q5:=@List.mem_singleton
abbrev Q6:=@Int.toNat_natCast
abbrev Q7:=@Nat.lt_of_lt_of_le
abbrev Q8:=@List.mem_of_getElem?
abbrev Q9:=@List.mem_cons
abbrev Qa:=@List.getElem?_map
abbrev Qb:=@List.length_append
abbrev Qc:=@Int.zero_add
abbrev Qd:=@Nat.pow_le_pow_right
abbrev Qe:=@List.size_toArray
abbrev Qf:=@List.getElem_mem
abbrev Qg:=@Nat.ne_of_lt
abbrev Qh:=@Nat.zero_le
abbrev Qi:=@List.length_take
abbrev Qj:=@List.mem_append
abbrev Qk:=@List.getElem?_eq_some_iff
abbrev Ql:=@List.mem_map
abbrev Qm:=@Nat.mul_le_mul
abbrev Qn:=@List.map_append
abbrev Qo:=@Int.mul_comm
abbrev Qp:=@Int.mul_pos
abbrev Qq:=@List.take_succ
abbrev Qr:=@Int.mul_assoc
abbrev Qs:=@Nat.lt_of_le_of_lt
abbrev Qt:=@Int.natAbs_mul
abbrev Qu:=@Bool.false_ne_true
abbrev Qv:=@Rat.num_divInt_den
abbrev Qw:=@List.length_set
abbrev Qx:=@Rat.divInt_eq_divInt_iff
abbrev Qy:=@Int.natAbs_natCast
abbrev Qz:=@List.take_length
abbrev W0:=@Nat.lt_irrefl
abbrev W1:=@List.mem_append_right
abbrev W3:=@Nat.mul_le_mul_right
abbrev W4:=@Int.gcd_dvd_right
abbrev W5:=@Int.fmod_eq_emod_of_nonneg
abbrev W6:=@Nat.mul_le_mul_left
abbrev W7:=@Nat.mul_comm
abbrev W8:=@List.not_mem_nil
abbrev W9:=@List.take_zero
abbrev Wa:=@List.mem_cons_self
abbrev Wb:=@Nat.mul_assoc
abbrev Wc:=@Nat.pow_succ
abbrev Wd:=@List.length_range
abbrev We:=@Int.natCast_mul
abbrev Wf:=@List.mem_or_eq_of_mem_set
abbrev Wg:=@List.getElem_of_mem
abbrev Wh:=@List.mem_cons_of_mem
abbrev Wi:=@List.getElem?_append_left
abbrev Wj:=@List.length_drop
abbrev Wl:=@List.mem_of_mem_take
abbrev Wm:=@Int.natCast_emod
abbrev Wo:=@Rat.divInt_mul_divInt
abbrev Wp:=@List.getElem?_take
abbrev Wq:=@List.getElem?_range
abbrev Wr:=@List.mem_range
abbrev Ws:=@List.getElem?_append_right
abbrev Wt:=@List.length_replicate
abbrev Wv:=@List.lookup_cons
abbrev Ww:=@Int.mul_neg
abbrev Wx:=@Int.gcd_dvd_left
abbrev Wy:=@List.take_of_length_le
abbrev Wz:=@Int.emod_eq_zero_of_dvd
abbrev U0:=@Nat.pow_add
abbrev U1:=@List.getElem?_set
abbrev U2:=@Nat.le_of_dvd
abbrev U3:=@Int.natAbs_dvd_natAbs
abbrev U4:=@List.getElem?_eq_none
abbrev U7:=@Nat.mul_pos
abbrev U8:=@Int.mul_one
abbrev U9:=@Int.mul_nonneg
abbrev Ua:=@Int.ne_of_gt
abbrev Ub:=@Int.emod_eq_of_lt
abbrev Uc:=@List.length_zipWith
abbrev Ud:=@Nat.sub_self
abbrev Ue:=@List.length_reverse
abbrev Uf:=@Nat.pow_pos
abbrev Ug:=@Nat.le_of_lt
abbrev Uh:=@List.filterMap_cons
abbrev Ui:=@List.mem_append_left
abbrev Uj:=@List.map_cons
abbrev Uk:=@Nat.pos_of_ne_zero
abbrev Ul:=@Int.emod_nonneg
abbrev Um:=@List.getElem?_reverse
abbrev Uo:=@List.map_take
abbrev Up:=@Nat.ne_of_gt
abbrev Uq:=@List.length_cons
abbrev Ur:=@Nat.lt_succ_self
abbrev Us:=@List.append_nil
abbrev Ut:=@Nat.le_succ
abbrev Uu:=@Int.gcd_comm
abbrev Uv:=@Nat.lt_or_ge
abbrev Uw:=@Nat.one_mul
abbrev Ux:=@Int.lt_of_not_ge
abbrev Uy:=@Int.one_mul
abbrev Uz:=@Int.emod_lt_of_pos
namespace L2
open PySem PySem.Spec PyProof.Rows
abbrev Key:=Sum Int Str
def ZnY:Key->Value->Bool
  | .inl k,v=>Value.isInt k v
  | .inr x,v=>Value.isStrOf x v
def ZpX(w:World):Key->Int
  | .inl k=>hashInt k
  | .inr x=>hashStr w x
theorem ZaR:∀ {k:Key} {v:Value},ZnY k v=true->(∃i t,k=Sum.inl i/\v=Value.int i t)\/(∃x t,k=Sum.inr x/\v=Value.str x t)
  | .inl i,v,h=>by
    obtain ⟨t,e⟩:=Value.isInt_shape (k:=i) (v:=v) h
    exact .inl ⟨i,t,rfl,e⟩
  | .inr x,v,h=>by
    obtain ⟨t,e⟩:=Value.isStrOf_shape (x:=x) (v:=v) h
    exact .inr ⟨x,t,rfl,e⟩
theorem ZnZ(a b:Int):decide ((Sum.inl a:Key)=Sum.inl b)=(a==b):=by
  by_cases e:a=b
  · subst e; simp
  · have h:¬(Sum.inl a:Key)=Sum.inl b:=λq=>e (Sum.inl.inj q)
    rw[decide_eq_false h]
    exact (beq_eq_false_iff_ne.mpr e).symm
theorem Zn0(a b:Str):decide ((Sum.inr a:Key)=Sum.inr b)=decide (a=b):=by
  by_cases e:a=b
  · subst e; simp
  · have h:¬(Sum.inr a:Key)=Sum.inr b:=λq=>e (Sum.inr.inj q)
    rw[decide_eq_false h,decide_eq_false e]
theorem Zn1(a:Int)(b:Str):decide ((Sum.inl a:Key)=Sum.inr b)=false:=decide_eq_false (λq=>nomatch q)
theorem Zn2(a:Str)(b:Int):decide ((Sum.inr a:Key)=Sum.inl b)=false:=decide_eq_false (λq=>nomatch q)
def Zdh(prog:Program)(w:World):PySem.KeyKind prog w Key where
  is:=ZnY
  hash:=ZpX w
  inj:=λv a b ha hb=>by
    rcases ZaR ha with ⟨i,t,rfl,rfl⟩ | ⟨x,t,rfl,rfl⟩
    · rcases ZaR hb with ⟨j,u,rfl,e⟩ | ⟨y,u,rfl,e⟩
      · injection e with e1 _; rw[e1]
      · exact nomatch e
    · rcases ZaR hb with ⟨j,u,rfl,e⟩ | ⟨y,u,rfl,e⟩
      · exact nomatch e
      · injection e with e1 _; rw[e1]
  byValue:=λk v h=>by
    rcases ZaR h with ⟨i,t,rfl,rfl⟩ | ⟨x,t,rfl,rfl⟩ <;> rfl
  pyHash:=λhv h=>by
    rcases ZaR hv with ⟨i,t,rfl,rfl⟩ | ⟨x,t,rfl,rfl⟩
    · exact wpAny_pyHash_int h
    · exact wpAny_pyHash_str h
  eqBool:=λhu hv h=>by
    rcases ZaR hu with ⟨i,t,rfl,rfl⟩ | ⟨x,t,rfl,rfl⟩
    · rcases ZaR hv with ⟨j,u,rfl,rfl⟩ | ⟨y,u,rfl,rfl⟩
      · rw[ZnZ] at h; exact wpAny_eqBool_int h
      · rw[Zn1] at h; exact SeqAt.EqAt.int_str i t y u _ _ _ _ h
    · rcases ZaR hv with ⟨j,u,rfl,rfl⟩ | ⟨y,u,rfl,rfl⟩
      · rw[Zn2] at h; exact SeqAt.EqAt.str_int x t j u _ _ _ _ h
      · rw[Zn0] at h; exact wpAny_eqBool_str h
  «strs»:=λk x t v h=>by
    rcases ZaR h with ⟨i,u,rfl,e⟩ | ⟨y,u,rfl,e⟩
    · exact nomatch e
    · injection e with e1 _
      subst e1
      cases v <;> rfl
end L2
namespace L2
open PySem PySem.Spec PyProof.Rows
inductive V where
  | non | bl (b:Bool) | int (i:Int) | str (x:Str) | byt (b:Array UInt8) | flt (b:UInt64) | ref (a:Addr) | ty (n:String)
  deriving DecidableEq
def RelV:V->Value->Prop
  | .non,u=>u=Value.none
  | .bl b,u=>u=Value.bool b
  | .int i,u=>∃t,u=Value.int i t
  | .str x,u=>∃t,u=Value.str x t
  | .byt b,u=>∃t,u=Value.bytes b t
  | .flt b,u=>∃t,u=Value.float b t
  | .ref a,u=>u=Value.ref a
  | .ty n,u=>u=Value.type n
abbrev Vals:List V->List Value->Prop:=Paired RelV
theorem Vals.length{xs:List V}{us:List Value}(r:Vals xs us):xs.length=us.length:=Paired.length r
theorem Vals.get:∀ {xs:List V} {us:List Value} {i:Nat} {x:V},Vals xs us->xs[i]?=some x->∃u,us[i]?=some u/\RelV x u
  | _,_,_,_,.nil,e=>by simp at e
  | _,_,0,_,.cons r _,e=>by simp at e; subst e; exact ⟨_,rfl,r⟩
  | _,_,i+1,x,.cons _ t,e=>by
    obtain ⟨u,h1,h2⟩:=Vals.get (i:=i) (x:=x) t (by simpa using e)
    exact ⟨u,by simpa using h1,h2⟩
theorem Vals.set{x:V}{u:Value}(r:RelV x u):∀ {xs:List V} {us:List Value} (i:Nat),Vals xs us->Vals (xs.set i x) (us.set i u)
  | _,_,_,.nil => .nil
  | _,_,0,.cons _ t => .cons r t
  | _,_,i+1,.cons q t => .cons q (Vals.set r i t)
theorem Vals.append:∀ {xs ys:List V} {us ws:List Value},Vals xs us->Vals ys ws->Vals (xs++ys) (us++ws)
  | _,_,_,_,.nil,s=>s
  | _,_,_,_,.cons r t,s => .cons r (Vals.append t s)
theorem Vals.take:∀ {xs:List V} {us:List Value} (n:Nat),Vals xs us->Vals (xs.take n) (us.take n)
  | _,_,0,_ => .nil
  | _,_,_+1,.nil => .nil
  | _,_,n+1,.cons r t => .cons r (Vals.take n t)
theorem Vals.drop:∀ {xs:List V} {us:List Value} (n:Nat),Vals xs us->Vals (xs.drop n) (us.drop n)
  | _,_,0,r=>r
  | _,_,_+1,.nil => .nil
  | _,_,n+1,.cons _ t=>Vals.drop n t
def RelO:Option V->Option Value->Prop
  | some v,some u=>RelV v u
  | none,none=>True
  | _,_=>False
def KV{κ:Type}:List (κ×V)->List (κ×Value)->Prop:=Paired λ(p:κ×V) (q:κ×Value)=>p.1=q.1/\RelV p.2 q.2
def kV:Key->V
  | .inl i => .int i
  | .inr x => .str x
inductive HO where
    | lst (xs:List V)
    | tup (xs:List V)
    | dK (kvs:List (Key×V)) | dT (kvs:List (List Key×V))
    | set (S:Int->Bool) (n:Nat)
    | ins (C dx:Addr) (fs:List (Str×V))
    | own (x:Addr)
    | xd (fs:List (Str×V))
    | met (f x:Addr)
    | rng (lo hi:Int)
    | frz (o:Obj) (u:HO)
    | tbl (ps:Array Value)
    | ext (φ:Heap->Prop)
abbrev Hp:=Addr->Option HO
def upd(H:Hp)(a:Addr)(o:HO):Hp:=λb=>if b=a then some o else H b
theorem Zaf{H:Hp}{a:Addr}{o:HO}:upd H a o a=some o:=by unfold upd; rw[if_pos rfl]
theorem Zav{H:Hp}{a b:Addr}{o:HO}(h:b≠a):upd H a o b=H b:=by unfold upd; rw[if_neg h]
theorem ZaD{H:Hp}{a b:Addr}{o:HO}(h:H a=some o)(h':H b=none):a≠b:=by
  intro e; subst e; rw[h] at h'; cases h'
section
variable(P:Program)(w:World)
def ObjOk(H:Hp)(h:Heap)(a:Addr):HO->Prop
  | .lst xs=>xs.length<=sizeLine/\∃(its:List Value) (n:Nat),Vals xs its/\h.get? a=some { cls:=.type "list", data:=.seq its.toArray n }
  | .tup xs=>xs.length<=sizeLine/\∃its:List Value,Vals xs its/\IsTup h a its.toArray
  | .dK kvs=>kvs.length<=sizeLine/\(a==sysModules)=false/\∃vs,KV kvs vs/\h.DictOf (Zdh P w) a vs
  | .dT kvs=>kvs.length<=sizeLine/\(a==sysModules)=false/\∃xs:List (List Key×Addr×Value),
      Paired (λ(p:List Key×V) (q:List Key×Addr×Value)=>p.1=q.1/\H q.2.1=some (.tup (p.1.map kV))/\RelV p.2 q.2.2) kvs xs ∧
      ∃o es ep,h.get? a=some o/\o.ExactDict/\o.data = .dict es ep/\es.toList=xs.map (entryOfKey (tupleKind (Zdh P w)))/\(xs.map (·.1)).Nodup
  | .set S n=>h.SetOf (intKind P w) a S n
  | .ins C dx fs=>H dx=some (.own a)/\fs.length<=1000/\dx≠a/\h.get? a=some (PySem.W.instObj C dx) ∧
      ∃mA,h.Ns1 dx mA/\(∀f,RelO (fs.lookup f) (mA f))/\PySem.Within mA (fs.map (·.1))
  | .own _=>∃o,h.get? a=some o
  | .xd fs=>∃mA,h.Ns1 a mA/\∀f,RelO (fs.lookup f) (mA f)
  | .rng lo hi=>∃t u v,h.get? a=some { cls:=.type "range", data:=.fields #[.int lo t,.int hi u,.int 1 v] }
  | .frz o u=>h.get? a=some o/\ObjOk H h a u
  | .tbl ps=>h.get? a=some { cls:=.none,data:=.fields ps }
  | .met f x=>h.get? a=some (PySem.W.methodObj (.ref f) (.ref x))
  | .ext φ=>φ h/\(∃o,h.get? a=some o)/\∀h1 h2:Heap,φ h1->(∀o,h1.get? a=some o->h2.get? a=some o)->φ h2
def HOk(H:Hp)(h:Heap):Prop:=∀a o,H a=some o->ObjOk P w H h a o
end
section
variable{P:Program}{w:World}{H H':Hp}{h h':Heap}{a:Addr}{o:HO}
theorem ObjOk.lt(x:ObjOk P w H h a o):a<h.objs.size:=by
  cases o with
  | lst xs=>obtain ⟨_,_,_,_,e⟩:=x; exact Heap.lt_size e
  | tup xs=>obtain ⟨_,_,_,p⟩:=x; exact p.lt
  | dK kvs=>obtain ⟨_,_,_,_,o,_,_,e,_⟩:=x; exact Heap.lt_size e
  | dT kvs=>obtain ⟨_,_,_,_,o,_,_,e,_⟩:=x; exact Heap.lt_size e
  | set S n=>obtain ⟨o,_,_,_,e,_⟩:=x; exact Heap.lt_size e
  | ins C dx fs=>obtain ⟨_,_,_,e,_⟩:=x; exact Heap.lt_size e
  | own y=>obtain ⟨_,e⟩:=x; exact Heap.lt_size e
  | xd fs=>obtain ⟨_,⟨_,_,_,e,_⟩,_⟩:=x; exact Heap.lt_size e
  | rng lo hi=>obtain ⟨_,_,_,e⟩:=x; exact Heap.lt_size e
  | frz ob u=>obtain ⟨e,_⟩:=x; exact Heap.lt_size e
  | tbl ps=>exact Heap.lt_size (show h.get? a=some _ from x)
  | met f y=>exact Heap.lt_size (show h.get? a=some _ from x)
  | ext φ=>obtain ⟨_,⟨_,e⟩,_⟩:=x; exact Heap.lt_size e
theorem Paired.mapP{α β:Type}{F G:α->β->Prop}:∀ {l₁:List α} {l₂:List β},Paired F l₁ l₂->(∀a b,F a b->G a b)->Paired G l₁ l₂
  | _,_,.nil,_ => .nil
  | _,_,.cons r t,f => .cons (f _ _ r) (Paired.mapP t f)
theorem ObjOk.stay(x:ObjOk P w H h a o)(k:∀b u,(b=a\/H b=some (.own a))->h.get? b=some u->h'.get? b=some u)
    (ho:∀b,H b=some (.own a)->H' b=some (.own a)) (ht:∀b xs,H b=some (.tup xs)->H' b=some (.tup xs)):ObjOk P w H' h' a o:=by
  induction o with
  | lst xs=>obtain ⟨z,its,n,r,e⟩:=x; exact ⟨z,its,n,r,k _ _ (.inl rfl) e⟩
  | tup xs=>obtain ⟨z,its,r,ob,e,c⟩:=x; exact ⟨z,its,r,ob,k _ _ (.inl rfl) e,c⟩
  | dK kvs=>obtain ⟨z,y,vs,r,ob,es,ep,e,c⟩:=x; exact ⟨z,y,vs,r,ob,es,ep,k _ _ (.inl rfl) e,c⟩
  | dT kvs =>
    obtain ⟨z,y,xs,r,ob,es,ep,e,c⟩:=x
    exact ⟨z,y,xs,Paired.mapP r λp q z=>⟨z.1,ht _ _ z.2.1,z.2.2⟩,ob,es,ep,k _ _ (.inl rfl) e,c⟩
  | set S n=>obtain ⟨ob,es,ep,t,e,c⟩:=x; exact ⟨ob,es,ep,t,k _ _ (.inl rfl) e,c⟩
  | ins C dx fs =>
    obtain ⟨d,z,ne,e,mA,⟨od,es,ep,e2,c⟩,r⟩:=x
    exact ⟨ho _ d,z,ne,k _ _ (.inl rfl) e,mA,⟨od,es,ep,k _ _ (.inr d) e2,c⟩,r⟩
  | own y=>obtain ⟨ob,e⟩:=x; exact ⟨ob,k _ _ (.inl rfl) e⟩
  | xd fs=>obtain ⟨mA,⟨od,es,ep,e,c⟩,r⟩:=x; exact ⟨mA,⟨od,es,ep,k _ _ (.inl rfl) e,c⟩,r⟩
  | rng lo hi=>obtain ⟨t,u,v,e⟩:=x; exact ⟨t,u,v,k _ _ (.inl rfl) e⟩
  | frz ob u ih=>obtain ⟨e,q⟩:=x; exact ⟨k _ _ (.inl rfl) e,ih q⟩
  | tbl ps =>
    have e:h.get? a=some { cls:=.none,data:=.fields ps }:=x
    show h'.get? a=some { cls:=.none,data:=.fields ps }
    exact k a _ (.inl rfl) e
  | met f y =>
    have e:h.get? a=some (PySem.W.methodObj (.ref f) (.ref y)):=x
    show h'.get? a=some (PySem.W.methodObj (.ref f) (.ref y))
    exact k a _ (.inl rfl) e
  | ext φ=>obtain ⟨p,⟨o,e⟩,st⟩:=x; exact ⟨st _ _ p λo q=>k _ _ (.inl rfl) q,⟨o,k _ _ (.inl rfl) e⟩,st⟩
theorem HOk.lt(x:HOk P w H h)(e:H a=some o):a<h.objs.size:=(x a o e).lt
theorem HOk.fresh(x:HOk P w H h)(e:h.objs.size<=a):H a=none:=by
  cases q:H a with
  | none=>rfl
  | some u=>exact absurd (Q7 (x.lt q) e) (W0 _)
theorem HOk.kept(x:HOk P w H h)(k:∀b u,h.get? b=some u->h'.get? b=some u):HOk P w H h':=λa o e =>
  (x a o e).stay (λb u _ q=>k b u q) (λ_ q=>q) λ_ _ q=>q
theorem HOk.laid(x:HOk P w H h)(k:∀b u,h.get? b=some u->h'.get? b=some u)(hp:h.objs.size<=a)(new:ObjOk P w (upd H a o) h' a o):HOk P w (upd H a o) h':=λb u e=>by
  have hn:=x.fresh hp
  by_cases hb:b=a
  · subst hb; rw[Zaf] at e; cases e; exact new
  · rw[Zav hb] at e
    exact (x b u e).stay (λc v _ q=>k c v q) (λc q=>by rw[Zav (ZaD q hn)]; exact q) λc xs q=>by rw[Zav (ZaD q hn)]; exact q
end
def Rd(H:Hp)(a:Addr)(u:HO):Prop:=H a=some u\/∃o,H a=some (.frz o u)
theorem Rd.ok{P:Program}{w:World}{H:Hp}{h:Heap}{a:Addr}{u:HO}(r:Rd H a u)(x:HOk P w H h):ObjOk P w H h a u:=by
  rcases r with r | ⟨o,r⟩
  · exact x a u r
  · obtain ⟨_,q⟩:=x a _ r
    exact q
def Mut:Option HO->Prop
  | some (.lst _)=>True
  | some (.dK _)=>True
  | some (.dT _)=>True
  | some (.set _ _)=>True
  | some (.ins _ _ _)=>True
  | some (.ext _)=>True
  | _=>False
section
variable{P:Program}{w:World}{H:Hp}{h h':Heap}{x e:Addr}{o':HO}
theorem HOk.write(ok:HOk P w H h)(mu:Mut (H x))(he:e=x\/H e=some (.own x))(k:∀b u,b≠e->h.get? b=some u->h'.get? b=some u)(heo:∃u,h'.get? e=some u)
    (new:ObjOk P w (upd H x o') h' x o'):HOk P w (upd H x o') h':=λb u q=>by
  have nown:∀c y,H c=some (.own y)->c≠x:=λc y r z=>by subst z; rw[r] at mu; exact mu
  have ntup:∀c xs,H c=some (.tup xs)->c≠x:=λc xs r z=>by subst z; rw[r] at mu; exact mu
  by_cases hb:b=x
  · subst hb; rw[Zaf] at q; cases q; exact new
  · rw[Zav hb] at q
    by_cases hbe:b=e
    · have q':H b=some (.own x):=by
        rcases he with z | z
        · exact absurd (hbe.trans z) hb
        · rw[hbe]; exact z
      rw[q] at q'; cases q'
      obtain ⟨v,hv⟩:=heo
      exact ⟨v,by rw[hbe]; exact hv⟩
    · refine (ok b u q).stay (λc v hc r=>k c v ?_ r) (λc r=>by rw[Zav (nown c b r)]; exact r) λc xs r=>by rw[Zav (ntup c xs r)]; exact r
      rcases hc with rfl | hc
      · exact hbe
      · rintro rfl
        rcases he with z | z
        · exact nown c b hc z
        · rw[hc] at z; cases z; exact hb rfl
end
structure Un (fs ex:List Addr) (H H':Hp) (h h':Heap):Prop where
  keep:∀b o,h.get? b=some o->H b=none->b∉fs->b∉ex->h'.get? b=some o
  slot:∀b o,h.get? b=some o->H b=none->b∈fs->b∉ex->∃sl,h'.get? b=some { o with slots:=sl }
  free:∀b o,h.get? b=some o->H b=none->b∉ex->H' b=none
  there:∀b o,h.get? b=some o->b∉ex->∃o',h'.get? b=some o'
  tups:∀b xs,H b=some (.tup xs)->H' b=some (.tup xs)
  frzs:∀b o u,H b=some (.frz o u)->H' b=some (.frz o u)
  tbls:∀b ps,H b=some (.tbl ps)->∃more,H' b=some (.tbl (ps++more))
section
variable{fs fs' ex ex':List Addr}{H H1 H2:Hp}{h h1 h2 h':Heap}{a x e:Addr}{o:HO}
theorem Un.any(u:Un fs ex H H1 h h1){b:Addr}{ob:Obj}(q:h.get? b=some ob)(n:H b=none)(hx:b∉ex):∃sl,h1.get? b=some { ob with slots:=sl }:=by
  by_cases hb:b∈fs
  · exact u.slot b ob q n hb hx
  · exact ⟨ob.slots,u.keep b ob q n hb hx⟩
theorem Un.kept(k:∀b u,h.get? b=some u->h'.get? b=some u):Un fs ex H H h h' :=
  ⟨λb ob q _ _ _=>k b ob q,λb ob q _ _ _=>⟨ob.slots,k b ob q⟩,λ_ _ _ n _=>n,λb ob q _=>⟨ob,k b ob q⟩,λ_ _ q=>q,λ_ _ _ q=>q,λ_ ps q=>⟨#[],by rw[q]; simp⟩⟩
theorem Un.refl:Un fs ex H H h h:=Un.kept λ_ _ q=>q
theorem Un.laid(k:∀b u,h.get? b=some u->h'.get? b=some u)(hp:h.objs.size<=a)(hn:H a=none):Un fs ex H (upd H a o) h h' where
  keep:=λb u q _ _ _=>k b u q
  slot:=λb u q _ _ _=>⟨u.slots,k b u q⟩
  free:=λb u q n _=>by rw[Zav (Qg (Q7 (Heap.lt_size q) hp))]; exact n
  there:=λb u q _=>⟨u,k b u q⟩
  tups:=λb xs q=>by rw[Zav (ZaD q hn)]; exact q
  frzs:=λb u xs q=>by rw[Zav (ZaD q hn)]; exact q
  tbls:=λb ps q=>⟨#[],by rw[Zav (ZaD q hn),q]; simp⟩
theorem Un.write(mu:Mut (H x))(he:e=x\/H e=some (.own x))(k:∀b u,b≠e->h.get? b=some u->h'.get? b=some u)(heo:∃u,h'.get? e=some u):Un fs ex H (upd H x o) h h':=by
  have hx:∀b,H b=none->b≠x:=λb n z=>by subst z; rw[n] at mu; exact mu
  have hb:∀b,H b=none->b≠e:=λb n z=>by
    subst z
    rcases he with r | r
    · exact hx b n r
    · rw[n] at r; cases r
  have hm:∀b u,H b=some u->¬Mut (some u)->b≠x:=λb u q nm z=>by subst z; rw[q] at mu; exact nm mu
  refine ⟨λb u q n _ _=>k b u (hb b n) q,λb u q n _ _=>⟨u.slots,k b u (hb b n) q⟩,λb u q n _=>by rw[Zav (hx b n)]; exact n,λb u q _=>?_,
    λb xs q=>by rw[Zav (hm b _ q λz=>z)]; exact q,λb u xs q=>by rw[Zav (hm b _ q λz=>z)]; exact q,λb ps q=>⟨#[],by rw[Zav (hm b _ q λz=>z),q]; simp⟩⟩
  by_cases hbe:b=e
  · subst hbe; exact heo
  · exact ⟨u,k b u hbe q⟩
end
def trk(h:Heap)(H:Hp):List Addr:=(List.range h.objs.size).filter λa=>(H a).isSome
def Zlg(h:Heap)(H:Hp):Heap:=PySem.W.hideAll h (trk h H)
theorem ZjE(h:Heap)(H:Hp):(Zlg h H).objs.size=h.objs.size:=PySem.W.hideAll_size _ _
theorem Zlh{h:Heap}{H:Hp}{b:Addr}{o:Obj}(e:h.get? b=some o)(n:H b=none):(Zlg h H).get? b=some o :=
  PySem.W.hideAll_get _ e λhm=>by
    have q:(H b).isSome=true:=(List.mem_filter.mp hm).2
    rw[n] at q; simp at q
theorem ZmJ{h:Heap}{H:Hp}{b:Addr}{o:Obj}(e:(Zlg h H).get? b=some o):h.get? b=some o/\H b=none:=by
  have e':h.get? b=some o:=PySem.W.of_hideAll (trk h H) e
  refine ⟨e',?_⟩
  cases q:H b with
  | none=>rfl
  | some x =>
    have hm:b∈trk h H:=List.mem_filter.mpr ⟨Wr.mpr (Heap.lt_size e'),by simp[q]⟩
    have z:(Zlg h H).get? b=none:=PySem.W.hideAll_none (trk h H) hm
    rw[z] at e; cases e
def ZmK(g h:Heap)(L:Addr):List (Addr×Obj):=(List.range h.objs.size).filterMap λa=>if a=L\/(g.get? a).isSome=true then none else (h.get? a).map λo=>(a,o)
def ZjF(g h:Heap)(L d:Addr):List (Addr×Obj):=(ZmK g h L).filter λp=>decide (p.1≠d)
end L2
namespace L2
open PySem PySem.Spec PyProof.Rows
structure Mod (K:PySem.W.Frag) (mg:Str->Option Value) (base:Heap):Prop where
  kin:K.In base
  glob:base.Ns mainGlobals mg
  blt:∃mb,base.Ns builtinsNs mb/\∀x:Str,x ≠ "__name__" -> mb x=bootBuiltins x
  nolimit:base.NoLimit
structure Cx where
  prog:Program
  w:World
  K:PySem.W.Frag
  mg:Str->Option Value
  base:Heap
  A:Around
  N:List Str
  s₀:Shared
  H₀:Hp
  env:Env
  outer:List Env
  stack:List Env
  ex:List Addr
  fn:Str->Bool
  calm:Bool
  pn:List (Addr×Obj)
  xe:Value->Shared->Prop
def frs(l:List Env):List Addr:=l.filterMap (·.frame)
abbrev Cx.fs(X:Cx):List Addr:=frs X.outer
def Vis(sc:Scope)(x:Str):Prop:=sc.names.lookup x=some .local\/sc.names.lookup x=some .cell\/sc.names.lookup x=some .free
def Loc(sc:Scope)(x:Str):Prop:=sc.names.lookup x=some .local\/sc.names.lookup x=some .cell
def ZpI(env:Env)(h:Heap)(m:Str->Option Value)(x:Str)(u:Value):Prop :=
  (env.kindOf x=some .local/\m x=some u)\/((env.kindOf x=some .cell\/env.kindOf x=some .free)/\∃c,env.cells.lookup x=some c/\h.IsCell c (some u))
structure Cx.Ok (X:Cx):Prop where
  mod:Mod X.K X.mg X.base
  kind:X.env.scope.kind = .function
  glob:X.env.globals=mainGlobals
  blt:X.env.builtins=builtinsNs
  above:X.s₀.heap.objs.size<=X.env.locals
  inj:∀x y c,X.env.cells.lookup x=some c->X.env.cells.lookup y=some c->x=y
  has:∀x,(X.env.kindOf x=some .cell\/X.env.kindOf x=some .free)->∃c,X.env.cells.lookup x=some c
  cab:∀x c,X.fn x=true->X.env.cells.lookup x=some c->X.s₀.heap.objs.size<=c
  hd:X.calm=true->X.A.handled=none
  frames:X.A.frames=some X.stack
  stk:X.stack=X.outer\/(X.stack=X.env::X.outer/\X.env.frame=some X.env.locals)
  exf:∀b∈X.ex,b≠X.env.locals/\∀x c,X.env.cells.lookup x=some c->c≠b
  bs:∀b o,X.base.get? b=some o->X.s₀.heap.get? b=some o/\X.H₀ b=none
  bsz:X.base.objs.size<=X.s₀.heap.objs.size
  noex:∀b o,X.base.get? b=some o->b∉X.ex
  exfs:∀b∈X.ex,b∉X.fs
  funs:X.s₀.heap.FunFrames X.base X.outer
  frf:∀b∈X.fs,X.H₀ b=none
structure Inv (X:Cx) (pins:List (Addr×Obj)) (σ:List (Option V)) (H:Hp) (s:Shared):Prop where
  ok:X.Ok
  os:s.os=X.s₀.os
  bare:AllBare s.gens
  base:Un X.fs X.ex X.H₀ H X.s₀.heap s.heap
  loc:∃m,s.heap.Ns X.env.locals m/\∀(i:Nat) (x:Str) (v:V),X.N[i]?=some x->σ[i]?=some (some v)->Vis X.env.scope x->∃u,RelV v u/\ZpI X.env s.heap m x u
  cell:∀x c,X.env.cells.lookup x=some c->∃v,s.heap.IsCell c v
  free:H X.env.locals=none
  freeC:∀x c,X.env.cells.lookup x=some c->H c=none
  pin:∀p∈X.pn++pins,s.heap.get? p.1=some p.2/\H p.1=none/\p.1≠X.env.locals/\p.1∉X.fs/\∀v,p.2.data ≠ .cell v
  hok:HOk X.prog X.w H s.heap
  len:σ.length=X.N.length
section
variable{X:Cx}{pins:List (Addr×Obj)}{σ:List (Option V)}{H H':Hp}{s:Shared}{h':Heap}
theorem Cx.Ok.nofr(ok:X.Ok){b:Addr}{o:Obj}(e:X.base.get? b=some o):b∉X.fs:=λhb=>by
  have:=(ok.funs.mem hb).1
  rw[e] at this; cases this
theorem Inv.bs(I:Inv X pins σ H s):∀b o,X.base.get? b=some o->s.heap.get? b=some o/\H b=none:=λb o e =>
  ⟨I.base.keep b o (I.ok.bs b o e).1 (I.ok.bs b o e).2 (I.ok.nofr e) (I.ok.noex b o e),I.base.free b o (I.ok.bs b o e).1 (I.ok.bs b o e).2 (I.ok.noex b o e)⟩
theorem Inv.bk(I:Inv X pins σ H s):∀b o,X.base.get? b=some o->s.heap.get? b=some o:=λb o e=>(I.bs b o e).1
theorem Inv.mod(I:Inv X pins σ H s):Mod X.K X.mg X.base:=I.ok.mod
theorem Inv.kIn(I:Inv X pins σ H s):X.K.In s.heap:=I.ok.mod.kin.keeps I.bk
theorem Inv.nolimit(I:Inv X pins σ H s):s.heap.NoLimit:=I.ok.mod.nolimit.keeps I.bk
theorem Inv.fr(I:Inv X pins σ H s):∃m,Fr X.base X.env.locals s.heap m :=
  let ⟨m,hn,_⟩:=I.loc
  ⟨m,hn,I.bk,Q0 I.ok.bsz I.ok.above⟩
theorem Inv.lt(I:Inv X pins σ H s):X.env.locals<s.heap.objs.size:=let ⟨_,hn,_⟩:=I.loc; hn.lt
theorem Inv.sz(I:Inv X pins σ H s):X.s₀.heap.objs.size<=s.heap.objs.size:=Q0 I.ok.above (Ug I.lt)
theorem Inv.nofs(I:Inv X pins σ H s){a:Addr}(h:s.heap.objs.size<=a):a∉X.fs:=λhb=>by
  obtain ⟨_,o,ho,_⟩:=I.ok.funs.mem hb
  exact absurd (Q7 (Heap.lt_size ho) (Q0 I.sz h)) (W0 _)
theorem Inv.cne(I:Inv X pins σ H s):∀x c,X.env.cells.lookup x=some c->c≠X.env.locals:=λx c e z=>by
  obtain ⟨v,o,ho,hd⟩:=I.cell x c e
  obtain ⟨m,⟨o',es,ep,ho',hd',_⟩,_⟩:=I.loc
  rw[z,ho'] at ho; cases ho; rw[hd'] at hd; cases hd
theorem Inv.funs(I:Inv X pins σ H s):s.heap.FunFrames X.base X.outer:=by
  have all:∀(l:List Env),(∀b∈frs l,b∈X.fs)->X.s₀.heap.FunFrames X.base l->s.heap.FunFrames X.base l:=by
    intro l
    induction l with
    | nil=>intro _ _; trivial
    | cons env r ih =>
      intro hs hl
      obtain ⟨hk,⟨L,o,hf,hn,ho,hd⟩,hr⟩:=hl
      have hL:L∈X.fs:=hs L (by unfold frs; rw[Uh,hf]; exact Wa)
      obtain ⟨sl,e⟩:=I.base.slot L o ho (I.ok.frf L hL) hL λz=>I.ok.exfs L z hL
      exact ⟨hk,⟨L,_,hf,hn,e,hd⟩,ih (λb hb=>hs b (by unfold frs; rw[Uh,hf]; exact Wh _ hb)) hr⟩
  exact all X.outer (λ_ hb=>hb) I.ok.funs
theorem Inv.stack(I:Inv X pins σ H s):s.heap.FunFrames X.base X.stack:=by
  rcases I.ok.stk with e | ⟨e,hf⟩
  · rw[e]; exact I.funs
  · rw[e]
    obtain ⟨m,hn,_⟩:=I.loc
    refine .cons (by rw[I.ok.kind]; decide) hf hn ?_ I.funs
    exact Heap.get?_none_of_le (Q0 I.ok.bsz I.ok.above)
theorem Inv.stkSub(I:Inv X pins σ H s):∀b∈frs X.stack,b∈X.env.locals::X.fs:=λb hb=>by
  rcases I.ok.stk with e | ⟨e,hf⟩
  · rw[e] at hb; exact Wh _ hb
  · rw[e] at hb
    unfold frs at hb
    rw[Uh,hf] at hb
    exact hb
theorem Inv.stkFree(I:Inv X pins σ H s):∀b∈frs X.stack,H b=none:=λb hb=>by
  rcases Q9.mp (I.stkSub b hb) with e | hb
  · rw[e]; exact I.free
  · obtain ⟨_,o,ho,_⟩:=I.ok.funs.mem hb
    exact I.base.free b o ho (I.ok.frf b hb) λz=>I.ok.exfs b z hb
theorem Inv.step{g':Array GenState}{t':Nat}{d':Drawn}{ch:List Addr}(I:Inv X pins σ H s)
    (hch:∀b∈ch,(b∈X.ex\/X.s₀.heap.objs.size<=b)/\b≠X.env.locals/\(∀x c,X.env.cells.lookup x=some c->c≠b)/\∀p∈X.pn++pins,p.1≠b)
    (keep:∀b o,b≠X.env.locals->b∉X.fs->b∉ch->s.heap.get? b=some o->H b=none->h'.get? b=some o)
    (slot:∀b o,b≠X.env.locals->b∈X.fs->b∉ch->s.heap.get? b=some o->H b=none->∃sl,h'.get? b=some { o with slots:=sl }) (free:∀b o,b∉ch->s.heap.get? b=some o->H b=none->H' b=none)
    (there:∀b o,b∉ch->s.heap.get? b=some o->∃o',h'.get? b=some o')
    (tups:∀b xs,H b=some (.tup xs)->H' b=some (.tup xs)) (frzs:∀b o u,H b=some (.frz o u)->H' b=some (.frz o u)) (tbls:∀b ps,H b=some (.tbl ps)->∃more,H' b=some (.tbl (ps++more)))
    (ns:∀m,s.heap.Ns X.env.locals m->h'.Ns X.env.locals m) (hok:HOk X.prog X.w H' h') (hg:AllBare g') :
    Inv X pins σ H' { s with heap:=h',gens:=g',drawn:=d',toks:=t' }:=by
  have neL:∀b o,X.s₀.heap.get? b=some o->b≠X.env.locals:=λb o e=>Qg (Q7 (Heap.lt_size e) I.ok.above)
  have neC:∀b o,X.s₀.heap.get? b=some o->b∉X.ex->b∉ch:=λb o e hx hb=>by
    rcases (hch b hb).1 with z | z
    · exact hx z
    · exact absurd (Q7 (Heap.lt_size e) z) (W0 _)
  have cellK:∀x c,X.env.cells.lookup x=some c->∀v,s.heap.IsCell c v->h'.IsCell c v:=λx c e v ⟨o,ho,hd⟩=>by
    have nch:c∉ch:=λz=>(hch c z).2.2.1 x c e rfl
    by_cases hc:c∈X.fs
    · obtain ⟨sl,q⟩:=slot c o (I.cne x c e) hc nch ho (I.freeC x c e)
      exact ⟨_,q,hd⟩
    · exact ⟨o,keep c o (I.cne x c e) hc nch ho (I.freeC x c e),hd⟩
  refine ⟨I.ok,I.os,hg,⟨λb o e n hb hx=>?_,λb o e n hb hx=>?_,λb o e n hx=>?_,λb o e hx=>?_,λb xs e=>tups b xs (I.base.tups b xs e),λb o xs e=>frzs b o xs (I.base.frzs b o xs e),λb ps e=>?_⟩,?_,λx c e=>?_,?_,λx c e=>?_,λp hp=>?_,hok,I.len⟩
  · exact keep b o (neL b o e) hb (neC b o e hx) (I.base.keep b o e n hb hx) (I.base.free b o e n hx)
  · obtain ⟨sl,e1⟩:=I.base.slot b o e n hb hx
    obtain ⟨sl',e2⟩:=slot b _ (neL b o e) hb (neC b o e hx) e1 (I.base.free b o e n hx)
    exact ⟨sl',e2⟩
  · obtain ⟨o',e1⟩:=I.base.there b o e hx
    exact free b o' (neC b o e hx) e1 (I.base.free b o e n hx)
  · obtain ⟨o',e1⟩:=I.base.there b o e hx
    exact there b o' (neC b o e hx) e1
  · obtain ⟨m1,e1⟩:=I.base.tbls b ps e
    obtain ⟨m2,e2⟩:=tbls b _ e1
    exact ⟨m1++m2,by rw[e2,Array.append_assoc]⟩
  · obtain ⟨m,hn,hl⟩:=I.loc
    refine ⟨m,ns m hn,λi x v e1 e2 e3=>?_⟩
    obtain ⟨u,r,l⟩:=hl i x v e1 e2 e3
    refine ⟨u,r,?_⟩
    rcases l with l | ⟨k,c,e,z⟩
    · exact .inl l
    · exact .inr ⟨k,c,e,cellK x c e _ z⟩
  · obtain ⟨v,z⟩:=I.cell x c e
    exact ⟨v,cellK x c e v z⟩
  · obtain ⟨m,⟨o,_,_,ho,_⟩,_⟩:=I.loc
    exact free _ o (λz=>(hch _ z).2.1 rfl) ho I.free
  · obtain ⟨v,o,ho,hd⟩:=I.cell x c e
    exact free c o (λz=>(hch c z).2.2.1 x c e rfl) ho (I.freeC x c e)
  · obtain ⟨e,n,ne,nf,d⟩:=I.pin p hp
    have nch:p.1∉ch:=λz=>(hch p.1 z).2.2.2 p hp rfl
    exact ⟨keep p.1 p.2 ne nf nch e n,free p.1 p.2 nch e n,ne,nf,d⟩
theorem Inv.un{t':Nat}(I:Inv X pins σ H s)(u:Un X.fs [] H H' s.heap h')(hok:HOk X.prog X.w H' h'):Inv X pins σ H' { s with heap:=h',toks:=t' }:=by
  obtain ⟨m,⟨o,es,ep,ho,r⟩,_⟩:=id I.loc
  obtain ⟨sl,hL⟩:=u.any ho I.free (by simp)
  exact I.step (g':=s.gens) (d':=s.drawn) (ch:=[]) (λ_ z=>nomatch z) (λb o _ hb _ e n=>u.keep b o e n hb (by simp)) (λb o _ hb _ e n=>u.slot b o e n hb (by simp)) (λb o _ e n=>u.free b o e n (by simp)) (λb o _ e=>u.there b o e (by simp)) u.tups u.frzs u.tbls (λm' hm=>by
    obtain ⟨o',es',ep',ho',r'⟩:=hm
    rw[ho] at ho'; cases ho'
    exact ⟨_,es',ep',hL,r'⟩) hok I.bare
theorem Inv.call{g':Array GenState}{t':Nat}{d':Drawn}{ch:List Addr}(I:Inv X pins σ H s)(u:Un (frs X.stack) ch H H' s.heap h')(hok:HOk X.prog X.w H' h')(hg:AllBare g')
    (hch:∀b∈ch,(b∈X.ex\/X.s₀.heap.objs.size<=b)/\b≠X.env.locals/\(∀x c,X.env.cells.lookup x=some c->c≠b)/\∀p∈X.pn++pins,p.1≠b) :
    Inv X pins σ H' { s with heap:=h',gens:=g',drawn:=d',toks:=t' }:=by
  obtain ⟨m,⟨o,es,ep,ho,r⟩,_⟩:=id I.loc
  obtain ⟨sl,hL⟩:=u.any ho I.free λz=>(hch _ z).2.1 rfl
  exact I.step (ch:=ch) hch (λb o hL hb hc e n=>u.keep b o e n (λz=>(Q9.mp (I.stkSub b z)).elim hL hb) hc) (λb o _ _ hc e n=>u.any e n hc) (λb o hc e n=>u.free b o e n hc) (λb o hc e=>u.there b o e hc) u.tups u.frzs u.tbls (λm' hm=>by
    obtain ⟨o',es',ep',ho',r'⟩:=hm
    rw[ho] at ho'; cases ho'
    exact ⟨_,es',ep',hL,r'⟩) hok hg
theorem Inv.turned{t':Nat}{it:Addr}(I:Inv X pins σ H s)(k:∀b o,b≠it->s.heap.get? b=some o->h'.get? b=some o)(hn:H it=none)(hL:it≠X.env.locals)
    (h1:it∈X.ex\/X.s₀.heap.objs.size<=it) (h2:∀x c,X.env.cells.lookup x=some c->c≠it) (h3:∀p∈X.pn++pins,p.1≠it):Inv X pins σ H { s with heap:=h',toks:=t' }:=by
  have nit:∀b u,H b=some u->b≠it:=λb u e z=>by rw[z,hn] at e; cases e
  refine I.step (g':=s.gens) (d':=s.drawn) (ch:=[it]) (λb hb=>?_) (λb o _ _ hc e _=>k b o (λz=>hc (by simp[z])) e) (λb o _ _ hc e _=>⟨o.slots,k b o (λz=>hc (by simp[z])) e⟩) (λ_ _ _ _ n=>n)
    (λb o hc e=>⟨o,k b o (λz=>hc (by simp[z])) e⟩) (λ_ _ e=>e) (λ_ _ _ e=>e) (λb ps e=>⟨#[],by rw[e]; simp⟩) (λm hm=>?_) (λb u e=>?_) I.bare
  · have e:b=it:=by simpa using hb
    subst e
    exact ⟨h1,hL,h2,h3⟩
  · obtain ⟨o,es,ep,ho,r⟩:=hm
    exact ⟨o,es,ep,k _ o (Ne.symm hL) ho,r⟩
  · refine (I.hok b u e).stay (λc v hc q=>k c v ?_ q) (λ_ q=>q) λ_ _ q=>q
    rcases hc with z | z
    · rw[z]; exact nit b u e
    · exact nit c _ z
theorem Inv.tok(I:Inv X pins σ H s)(t:Nat):Inv X pins σ H { s with toks:=t }:=I.un (h':=s.heap) (t':=t) Un.refl I.hok
theorem Inv.kept{t':Nat}(I:Inv X pins σ H s)(k:∀b u,s.heap.get? b=some u->h'.get? b=some u):Inv X pins σ H { s with heap:=h',toks:=t' }:=I.un (Un.kept k) (I.hok.kept k)
theorem Inv.laid{a:Addr}{o:HO}{t':Nat}(I:Inv X pins σ H s)(k:∀b u,s.heap.get? b=some u->h'.get? b=some u)(hp:s.heap.objs.size<=a)(new:ObjOk X.prog X.w (upd H a o) h' a o) :
    Inv X pins σ (upd H a o) { s with heap:=h',toks:=t' }:=I.un (Un.laid k hp (I.hok.fresh hp)) (I.hok.laid k hp new)
theorem Inv.write{x e:Addr}{o:HO}{t':Nat}(I:Inv X pins σ H s)(mu:Mut (H x))(he:e=x\/H e=some (.own x))(k:∀b u,b≠e->s.heap.get? b=some u->h'.get? b=some u)(heo:∃u,h'.get? e=some u)
    (new:ObjOk X.prog X.w (upd H x o) h' x o):Inv X pins σ (upd H x o) { s with heap:=h',toks:=t' }:=I.un (Un.write mu he k heo) (I.hok.write mu he k heo new)
theorem Inv.weak{σ':List (Option V)}(I:Inv X pins σ H s)(hl:σ'.length=σ.length)(w:∀(i:Nat) v,σ'[i]?=some (some v)->σ[i]?=some (some v)):Inv X pins σ' H s :=
  ⟨I.ok,I.os,I.bare,I.base,let ⟨m,hn,hl'⟩:=I.loc; ⟨m,hn,λi x v e1 e2 e3=>hl' i x v e1 (w i v e2) e3⟩,I.cell,I.free,I.freeC,I.pin,I.hok,hl.trans I.len⟩
theorem Inv.pins_of{pins':List (Addr×Obj)}(I:Inv X pins σ H s)(h:∀p∈pins',s.heap.get? p.1=some p.2/\H p.1=none/\p.1≠X.env.locals/\p.1∉X.fs/\∀v,p.2.data ≠ .cell v):Inv X pins' σ H s :=
  ⟨I.ok,I.os,I.bare,I.base,I.loc,I.cell,I.free,I.freeC,λp hp=>(Qj.mp hp).elim (λz=>I.pin p (Ui _ z)) (h p),I.hok,I.len⟩
theorem Zim{N:List Str}(hN:N.Nodup){i j:Nat}{x:Str}(a:N[i]?=some x)(b:N[j]?=some x):i=j:=by
  obtain ⟨h1,e1⟩:=Qk.mp a
  obtain ⟨h2,e2⟩:=Qk.mp b
  exact (List.getElem_inj hN).mp (e1.trans e2.symm)
theorem ZgP{M:Model}{A:Around}{E:Value->Shared->Prop}{i:Nat}{x:Str}{v:V}{u:Value}{Q:Unit->Shared->Prop}(I:Inv X pins σ H s)(hN:X.N.Nodup)(hi:X.N[i]?=some x)(hx:Loc X.env.scope x)(r:RelV v u)
    (h:∀s',Inv X pins (σ.set i (some v)) H s'->(∃a,Heap.SameBut a s.heap s'.heap/\(a=X.env.locals\/X.env.cells.lookup x=some a))->Q () s') (hf:X.fn x=true\/X.env.scope.names.lookup x=some .local:=by first | exact .inl rfl | exact .inr rfl | assumption):wpAny M A (storeName X.env x u) Q E s:=by
  obtain ⟨m,hn,hl⟩:=id I.loc
  have hcls:(X.env.scope.kind == .class||(X.env.scope.kind == .module&&X.env.locals != X.env.globals))=false:=by rw[I.ok.kind]; rfl
  have hiσ:i<σ.length:=by rw[I.len]; exact (Qk.mp hi).1
  have cne:=I.cne
  have tracked:∀ {a:Addr} {h':Heap},(∃o,s.heap.get? a=some o/\H a=none)->Heap.SameBut a s.heap h'->HOk X.prog X.w H h':=fun {a h'} ha hs b ob e=>by
    obtain ⟨_,_,hfree⟩:=ha
    refine (I.hok b ob e).stay (λc w' hc q=>(hs.2 c ?_).trans q) (λ_ q=>q) λ_ _ q=>q
    rintro rfl
    rcases hc with rfl | hc
    · rw[hfree] at e; cases e
    · rw[hfree] at hc; cases hc
  rcases hx with hk | hk
  · refine wpAny_storeName_local hk hn (λh' hn' hs=>?_) hcls
    obtain ⟨oL,_,_,hoL,_⟩:=id hn
    refine h _ ⟨I.ok,I.os,I.bare,⟨λb o e n hb hx=>?_,λb o e n hb hx=>?_,I.base.free,λb o e hx=>?_,I.base.tups,I.base.frzs,I.base.tbls⟩,⟨_,hn',λj y v' e1 e2 e3=>?_⟩,λy c e=>?_,I.free,I.freeC,λp hp=>?_,tracked ⟨oL,hoL,I.free⟩ hs,by simpa using I.len⟩ ⟨_,hs,.inl rfl⟩
    · exact (hs.2 b (Qg (Q7 (Heap.lt_size e) I.ok.above))).trans (I.base.keep b o e n hb hx)
    · obtain ⟨sl,e1⟩:=I.base.slot b o e n hb hx
      exact ⟨sl,(hs.2 b (Qg (Q7 (Heap.lt_size e) I.ok.above))).trans e1⟩
    · obtain ⟨o',e1⟩:=I.base.there b o e hx
      exact ⟨o',(hs.2 b (Qg (Q7 (Heap.lt_size e) I.ok.above))).trans e1⟩
    · by_cases hj:j=i
      · subst hj
        rw[hi] at e1; cases e1
        rw[List.getElem?_set_self hiσ] at e2
        cases e2
        exact ⟨u,r,.inl ⟨hk,by simp⟩⟩
      · rw[List.getElem?_set_ne (Ne.symm hj)] at e2
        obtain ⟨u',r',q⟩:=hl j y v' e1 e2 e3
        refine ⟨u',r',?_⟩
        rcases q with ⟨k,e⟩ | ⟨k,c,e,z⟩
        · refine .inl ⟨k,?_⟩
          have:y≠x:=λe=>hj (Zim hN e1 (e ▸ hi))
          simp[this,e]
        · exact .inr ⟨k,c,e,z.sameBut hs (cne y c e)⟩
    · obtain ⟨w',z⟩:=I.cell y c e
      exact ⟨w',z.sameBut hs (cne y c e)⟩
    · obtain ⟨e,n,ne,nf,d⟩:=I.pin p hp
      exact ⟨(hs.2 p.1 ne).trans e,n,ne,nf,d⟩
  · have hfn:X.fn x=true:=by
      rcases hf with z | z
      · exact z
      · rw[z] at hk; cases hk
    obtain ⟨c,hc⟩:=I.ok.has x (.inl hk)
    obtain ⟨w',z⟩:=I.cell x c hc
    refine wpAny_storeName_cell I.ok.kind hk hc z (λh' hc' hs=>?_)
    obtain ⟨oc,hoc,hocd⟩:=id z
    refine h { s with heap:=h' } ⟨I.ok,I.os,I.bare,⟨λb o e n hb hx=>?_,λb o e n hb hx=>?_,I.base.free,λb o e hx=>?_,I.base.tups,I.base.frzs,I.base.tbls⟩,⟨m,hn.sameBut hs (Ne.symm (cne x c hc)),λj y v' e1 e2 e3=>?_⟩,λy c' e=>?_,I.free,I.freeC,λp hp=>?_,tracked ⟨oc,hoc,I.freeC x c hc⟩ hs,by simpa using I.len⟩ ⟨c,hs,.inr hc⟩
    · exact (hs.2 b (Qg (Q7 (Heap.lt_size e) (I.ok.cab x c hfn hc)))).trans (I.base.keep b o e n hb hx)
    · obtain ⟨sl,e1⟩:=I.base.slot b o e n hb hx
      exact ⟨sl,(hs.2 b (Qg (Q7 (Heap.lt_size e) (I.ok.cab x c hfn hc)))).trans e1⟩
    · obtain ⟨o',e1⟩:=I.base.there b o e hx
      exact ⟨o',(hs.2 b (Qg (Q7 (Heap.lt_size e) (I.ok.cab x c hfn hc)))).trans e1⟩
    · by_cases hj:j=i
      · subst hj
        rw[hi] at e1; cases e1
        rw[List.getElem?_set_self hiσ] at e2
        cases e2
        exact ⟨u,r,.inr ⟨.inl hk,c,hc,hc'⟩⟩
      · rw[List.getElem?_set_ne (Ne.symm hj)] at e2
        obtain ⟨u',r',q⟩:=hl j y v' e1 e2 e3
        refine ⟨u',r',?_⟩
        rcases q with q | ⟨k,c',e,z'⟩
        · exact .inl q
        · refine .inr ⟨k,c',e,z'.sameBut hs ?_⟩
          rintro rfl
          exact hj (Zim hN e1 (I.ok.inj _ _ _ e hc ▸ hi))
    · by_cases hcc:c'=c
      · subst hcc; exact ⟨_,hc'⟩
      · obtain ⟨w2,z2⟩:=I.cell y c' e
        exact ⟨w2,z2.sameBut hs hcc⟩
    · obtain ⟨e,n,ne,nf,d⟩:=I.pin p hp
      refine ⟨(hs.2 p.1 ?_).trans e,n,ne,nf,d⟩
      intro q
      rw[q,hoc] at e
      have q':oc=p.2:=Option.some.inj e
      exact d w' (by rw[<-q']; exact hocd)
theorem Zc4{M:Model}{A:Around}{E:Value->Shared->Prop}{i:Nat}{x:Str}{v:V}{u:Value}{Q:Unit->Shared->Prop}(I:Inv X pins σ H s)(hN:X.N.Nodup)(hi:X.N[i]?=some x)(hx:Loc X.env.scope x)(r:RelV v u)
    (h:∀s',Inv X pins (σ.set i (some v)) H s'->Q () s') (hf:X.fn x=true\/X.env.scope.names.lookup x=some .local:=by first | exact .inl rfl | exact .inr rfl | assumption):wpAny M A (storeName X.env x u) Q E s :=
  ZgP I hN hi hx r (λs' I' _=>h s' I') hf
theorem Inv.call'{s':Shared}{ch:List Addr}(I:Inv X pins σ H s)(ho:s'.os=s.os)(u:Un (frs X.stack) ch H H' s.heap s'.heap)(hok:HOk X.prog X.w H' s'.heap)(hg:AllBare s'.gens)
    (hch:∀b∈ch,(b∈X.ex\/X.s₀.heap.objs.size<=b)/\b≠X.env.locals/\(∀x c,X.env.cells.lookup x=some c->c≠b)/\∀p∈X.pn++pins,p.1≠b):Inv X pins σ H' s':=by
  obtain ⟨h',g',d',t',o'⟩:=s'
  have e:o'=s.os:=ho
  subst e
  exact I.call (g':=g') (t':=t') (d':=d') u hok hg hch
end
abbrev XK:=Value->Option Addr->Hp->Prop
abbrev St:=List (Option V)
abbrev VK:=V->Hp->Prop
abbrev TE:=St->Hp->VK->Prop
abbrev TT:=St->Hp->(Bool->Hp->Prop)->Prop
abbrev TA:=St->Hp->(List V->Hp->Prop)->Prop
structure Ends where
  nx:St->Hp->Prop
  rt:VK
  bk:St->Hp->Prop:=λ_ _=>False
  ct:St->Hp->Prop:=λ_ _=>False
abbrev TS:=Ends->St->Hp->Prop
def EP(X:Cx)(pins:List (Addr×Obj))(σ:St)(Q:VK)(u:Value)(s':Shared):Prop:=∃v H',Inv X pins σ H' s'/\RelV v u/\Q v H'
def TP(X:Cx)(pins:List (Addr×Obj))(σ:St)(Q:Bool->Hp->Prop)(b:Bool)(s':Shared):Prop:=∃H',Inv X pins σ H' s'/\Q b H'
def AP(X:Cx)(pins:List (Addr×Obj))(σ:St)(Q:List V->Hp->Prop)(us:List Value)(s':Shared):Prop:=∃vs H',Inv X pins σ H' s'/\Vals vs us/\Q vs H'
def SP(X:Cx)(pins:List (Addr×Obj))(D:Ends)(f:Flow)(s':Shared):Prop :=
  match f with
  | .next=>∃σ' H',Inv X pins σ' H' s'/\D.nx σ' H'
  | .brk=>∃σ' H',Inv X pins σ' H' s'/\D.bk σ' H'
  | .cont=>∃σ' H',Inv X pins σ' H' s'/\D.ct σ' H'
  | .ret u=>∃v σ' H',Inv X pins σ' H' s'/\RelV v u/\D.rt v H'
def PE(X:Cx)(e:Expr)(t:TE):Prop :=
  ∀(pins:List (Addr×Obj)) (s:Shared) (σ:St) (H:Hp) (Q:VK),Inv X pins σ H s->t σ H Q->wpAny (model X.prog X.w) X.A (eval e X.env) (EP X pins σ Q) X.xe s
def PT(X:Cx)(e:Expr)(t:TT):Prop :=
  ∀(pins:List (Addr×Obj)) (s:Shared) (σ:St) (H:Hp) (Q:Bool->Hp->Prop),Inv X pins σ H s->t σ H Q->wpAny (model X.prog X.w) X.A (isTrue e X.env (eval e X.env)) (TP X pins σ Q) X.xe s
def PW(X:Cx)(e:Expr)(t:TT):Prop :=
  ∀(whole:Sem Value) (pins:List (Addr×Obj)) (s:Shared) (σ:St) (H:Hp) (Q:Bool->Hp->Prop),Inv X pins σ H s->t σ H Q->wpAny (model X.prog X.w) X.A (isTrue e X.env whole) (TP X pins σ Q) X.xe s
theorem PW.pt{X:Cx}{e:Expr}{t:TT}(h:PW X e t):PT X e t:=h _
def PA(X:Cx)(es:List Expr)(t:TA):Prop :=
  ∀(pos:Pos) (pins:List (Addr×Obj)) (s:Shared) (σ:St) (H:Hp) (Q:List V->Hp->Prop),Inv X pins σ H s->t σ H Q->wpAny (model X.prog X.w) X.A (spliced (backTo pos (starEach es X.env))) (AP X pins σ Q) X.xe s
def PS(X:Cx)(st:Stmt)(t:TS):Prop :=
  ∀(pins:List (Addr×Obj)) (s:Shared) (σ:St) (H:Hp) (D:Ends),Inv X pins σ H s->t D σ H->wpAny (model X.prog X.w) X.A (exec st X.env) (SP X pins D) X.xe s
def PSs(X:Cx)(st:List Stmt)(t:TS):Prop :=
  ∀(pins:List (Addr×Obj)) (s:Shared) (σ:St) (H:Hp) (D:Ends),Inv X pins σ H s->t D σ H->wpAny (model X.prog X.w) X.A (execs st X.env) (SP X pins D) X.xe s
theorem thn{α:Type}{t:Sem α}{Q Q':α->Shared->Prop}{M:Model}{A:Around}{E:Value->Shared->Prop}{s:Shared}(h:wpAny M A t Q E s)(hQ:∀a s,Q a s->Q' a s):wpAny M A t Q' E s:=wpAny_mono h hQ λ_ _ x=>x
end L2
namespace L2
open PySem PySem.Spec PyProof.Rows
section
variable{X:Cx}
theorem bin{a b:Expr}{ta tb:TE}(ha:PE X a ta)(hb:PE X b tb){pins:List (Addr×Obj)}{s:Shared}{σ:St}{H:Hp}{R:V->V->Hp->Prop}(I:Inv X pins σ H s)(h:ta σ H λx H1=>tb σ H1 λy H2=>R x y H2)
    {α:Type} {Q:α->Shared->Prop} {f:Value->Value->Sem α}
    (hf:∀v u s2 x y H2,Inv X pins σ H2 s2->RelV x v->RelV y u->R x y H2->wpAny (model X.prog X.w) X.A (f v u) Q X.xe s2) :
    wpAny (model X.prog X.w) X.A (eval a X.env) (λv s₁=>wpAny (model X.prog X.w) X.A (eval b X.env) (λu s₂=>wpAny (model X.prog X.w) X.A (f v u) Q X.xe s₂) X.xe s₁) X.xe s:=by
  refine thn (ha pins s σ H _ I h) λv s1 ⟨x,H1,I1,r1,q1⟩=>?_
  refine thn (hb pins s1 σ H1 _ I1 q1) λu s2 ⟨y,H2,I2,r2,q2⟩=>?_
  exact hf v u s2 x y H2 I2 r1 r2 q2
inductive Zo5 (i:Nat) (σ:St) (H:Hp) (Q:VK):Prop
  | mk (v:V) (_:σ[i]?=some (some v)) (_:Q v H):Zo5 i σ H Q
def tC(v:V):TE:=λ_ H Q=>Q v H
theorem Zn3{i:Nat}{x:Str}{pos:Pos}(hN:X.N[i]?=some x)(hv:Vis X.env.scope x)(hd:(x==("__debug__" : Str))=false:=by decide) (hcd:(x==("__classdict__" : Str))=false:=by decide):PE X (.Name x pos) (Zo5 i):=by
  intro pins s σ H Q I h
  obtain ⟨v,e,h⟩:=h
  obtain ⟨m,hn,hl⟩:=I.loc
  obtain ⟨u,r,l⟩:=hl i x v hN e hv
  have fin:EP X pins σ Q u s:=⟨v,H,I,r,h⟩
  rcases l with ⟨hk,hm⟩ | ⟨hk,c,hc,hcell⟩
  · exact wpAny_Name (wpAny_loadName_local I.ok.kind hk hn hm fin) hd
  · rcases hk with hk | hk
    · exact wpAny_Name (wpAny_loadName_cell I.ok.kind hk hc hcell fin) hd
    · exact wpAny_Name (wpAny_loadName_free I.ok.kind hk hc hcell fin hcd) hd
theorem Zad{i j pos}:PE X (.Constant (.int i) j pos) (tC (.int i)):=λ_ _ _ H _ I h=>wpAny_Constant_int ⟨.int i,H,I.tok _,⟨_,rfl⟩,h⟩
theorem Zcj{b j pos}:PE X (.Constant (.bool b) j pos) (tC (.bl b)):=λ_ _ _ H _ I h=>Constant_bool ⟨.bl b,H,I,rfl,h⟩
theorem ZfL{j pos}:PE X (.Constant .none j pos) (tC .non):=λ_ _ _ H _ I h=>Constant_none ⟨.non,H,I,rfl,h⟩
theorem ZbC{x j pos}:PE X (.Constant (.str x) j pos) (tC (.str x)):=λ_ _ _ H _ I h=>Calls.Constant_str ⟨.str x,H,I.tok _,⟨_,rfl⟩,h⟩
def Gl(X:Cx)(x:Str):Prop:=X.env.kindOf x=some .globalImplicit
theorem Zdi{E:Value->Shared->Prop}{pins:List (Addr×Obj)}{s:Shared}{σ:St}{H:Hp}{x:Str}{u:Value}{pos:Pos}{Q:Value->Shared->Prop}(I:Inv X pins σ H s)(hg:Gl X x)(hm:X.mg x=some u)(h:Q u s)
    (hd:(x==("__debug__" : Str))=false:=by decide):wpAny (model X.prog X.w) X.A (eval (.Name x pos) X.env) Q E s :=
  Calls.Name_function_global I.ok.kind hg (Calls.loadGlobal_global (by rw[I.ok.glob]; exact I.mod.glob.keeps I.bk) hm h) hd
theorem ZdD{E:Value->Shared->Prop}{pins:List (Addr×Obj)}{s:Shared}{σ:St}{H:Hp}{x:Str}{u:Value}{pos:Pos}{Q:Value->Shared->Prop}(I:Inv X pins σ H s)(hg:Gl X x)(hm:X.mg x=none)(hv:bootBuiltins x=some u)(h:Q u s)
    (hn:x ≠ "__name__" := by decide) (hd:(x==("__debug__" : Str))=false:=by decide):wpAny (model X.prog X.w) X.A (eval (.Name x pos) X.env) Q E s:=by
  obtain ⟨mb,h1,h2⟩:=I.mod.blt
  exact Calls.Name_function_global I.ok.kind hg (Calls.loadGlobal_builtin (by rw[I.ok.glob]; exact I.mod.glob.keeps I.bk) hm (by rw[I.ok.blt]; exact h1.keeps I.bk) ((h2 x hn).trans hv) h) hd
theorem Zck{x:Str}{v:V}{u:Value}{pos:Pos}(hg:Gl X x)(hm:X.mg x=some u)(r:RelV v u)(hd:(x==("__debug__" : Str))=false:=by decide):PE X (.Name x pos) (tC v) :=
  λ_ _ _ H _ I h=>Zdi I hg hm ⟨v,H,I,r,h⟩ hd
theorem ZmL{x:Str}{v:V}{u:Value}{pos:Pos}(hg:Gl X x)(hm:X.mg x=none)(hv:bootBuiltins x=some u)(r:RelV v u)(hn:x ≠ "__name__" := by decide) (hd:(x==("__debug__" : Str))=false:=by decide):PE X (.Name x pos) (tC v) :=
  λ_ _ _ H _ I h=>ZdD I hg hm hv ⟨v,H,I,r,h⟩ hn hd
variable{a b:Expr}{ta tb:TE}{pos:Pos}
def PC(X:Cx)(op:CmpOp)(a b:Expr)(t:TE):Prop :=
  ∀(pins:List (Addr×Obj)) (s:Shared) (σ:St) (H:Hp) (Q:VK),Inv X pins σ H s->t σ H Q →
    wpAny (model X.prog X.w) X.A (eval a X.env) (λv s₁=>wpAny (model X.prog X.w) X.A (eval b X.env) (λu s₂=>wpAny (model X.prog X.w) X.A (compareOp op v u) (EP X pins σ Q) X.xe s₂) X.xe s₁) X.xe s
theorem Zli(b:Expr){op:CmpOp}(h:op ≠ .In)(h2:op ≠ .NotIn):behindInMarks op b=false:=by
  have e1:(op==CmpOp.In)=false:=by cases op <;> first | rfl | exact absurd rfl h
  have e2:(op==CmpOp.NotIn)=false:=by cases op <;> first | rfl | exact absurd rfl h2
  cases b <;> simp[behindInMarks,e1,e2]
def tB(t:TE):TT:=λσ H Q=>t σ H λx H1=>∃c,x = .bl c/\Q c H1
theorem ZpJ{op:CmpOp}{t:TE}(h:PC X op a b t)(h1:behindInMarks op b=false:=by first | exact Zli _ ∅ ∅ | rfl):PT X (.Compare a [op] [b] pos) (tB t):=by
  intro pins s σ H Q I hw
  refine wpAny_isTrue_Compare1 (thn (h pins s σ H _ I hw) λv s1 h1=>thn h1 λu s2 h2=>thn h2 λc s3 ⟨x,H1,I1,r1,q1⟩=>?_) h1
  obtain ⟨d,rfl,q⟩:=q1
  cases r1
  exact wpAny_truthy_bool ⟨H1,I1,q⟩
theorem ZaY{e:Expr}{t:TE}(h:PE X e t)(he:∀whole,isTrue e X.env whole=(do let v ← whole; standAt e.pos; holding [v] (truthy v)):=by intro _; rfl):PT X e (tB t):=by
  intro pins s σ H Q I hw
  refine isTrue_plain (thn (h pins s σ H _ I hw) λv s1 ⟨x,H1,I1,r1,q1⟩=>?_) (he _)
  obtain ⟨d,rfl,q⟩:=q1
  cases r1
  exact wpAny_truthy_bool ⟨H1,I1,q⟩
variable{tA tB':TT}{ZjF:List Expr}
def ZpY(t u:TT):TT:=λσ H Q=>t σ H λc H1=>if c=true then u σ H1 Q else Q false H1
def tOr(t u:TT):TT:=λσ H Q=>t σ H λc H1=>if c=true then Q true H1 else u σ H1 Q
def ZpZ(t:TT):TT:=λσ H Q=>t σ H λc H1=>Q (!c) H1
theorem ZdV(ha:PT X a tA):PW X (.BoolOp .And [a] pos) tA:=by
  intro wh pins s σ H Q I h
  refine isTrue_and (thn (ha pins s σ H Q I h) λc s1 e=>?_)
  cases c with
  | true=>exact isTrue_and_nil e
  | false=>exact e
theorem ZdE(ha:PT X a tA):PW X (.BoolOp .Or [a] pos) tA:=by
  intro wh pins s σ H Q I h
  refine isTrue_or (thn (ha pins s σ H Q I h) λc s1 e=>?_)
  cases c with
  | false=>exact isTrue_or_nil e
  | true=>exact e
theorem ZfM(ha:PT X a tA)(hb:PW X (.BoolOp .And (b::ZjF) pos) tB'):PW X (.BoolOp .And (a::b::ZjF) pos) (ZpY tA tB'):=by
  intro wh pins s σ H Q I h
  refine isTrue_and (thn (ha pins s σ H _ I h) λc s1 ⟨H1,I1,q1⟩=>?_)
  cases c with
  | true=>exact hb wh pins s1 σ H1 Q I1 q1
  | false=>exact ⟨H1,I1,q1⟩
theorem Zdj(ha:PT X a tA)(hb:PW X (.BoolOp .Or (b::ZjF) pos) tB'):PW X (.BoolOp .Or (a::b::ZjF) pos) (tOr tA tB'):=by
  intro wh pins s σ H Q I h
  refine isTrue_or (thn (ha pins s σ H _ I h) λc s1 ⟨H1,I1,q1⟩=>?_)
  cases c with
  | true=>exact ⟨H1,I1,q1⟩
  | false=>exact hb wh pins s1 σ H1 Q I1 q1
theorem ZbD(ha:PT X a tA):PT X (.UnaryOp .Not a pos) (ZpZ tA):=by
  intro pins s σ H Q I h
  exact isTrue_not (ha pins s σ H (λc H1=>Q (!c) H1) I h)
def Zo6(ta tb:TE):TE:=λσ H Q=>ta σ H λx H1=>∃c,x = .bl c/\if c=true then tb σ H1 Q else Q (.bl false) H1
def Zo7(ta:TE):TE:=λσ H Q=>ta σ H λx H1=>∃c,x = .bl c/\Q (.bl (!c)) H1
theorem ZfN{op}{t:TE}(h:PE X a t):PE X (.BoolOp op [a] pos) t:=λpins s σ H Q I hw=>BoolOp_one (h pins s σ H Q I hw)
theorem ZfO(ha:PE X a ta)(hb:PE X (.BoolOp .And (b::ZjF) pos) tb):PE X (.BoolOp .And (a::b::ZjF) pos) (Zo6 ta tb):=by
  intro pins s σ H Q I h
  refine BoolOp_and (thn (ha pins s σ H _ I h) λv s1 ⟨x,H1,I1,r1,q1⟩=>?_)
  obtain ⟨c,rfl,q1⟩:=q1
  cases r1
  refine wpAny_truthy_bool ?_
  cases c with
  | true=>exact hb pins s1 σ H1 Q I1 q1
  | false=>exact ⟨.bl false,H1,I1,rfl,q1⟩
theorem Zme(ha:PE X a ta):PE X (.UnaryOp .Not a pos) (Zo7 ta):=by
  intro pins s σ H Q I h
  refine UnaryOp_ (thn (ha pins s σ H _ I h) λv s1 ⟨x,H1,I1,r1,q1⟩=>?_)
  obtain ⟨c,rfl,q1⟩:=q1
  cases r1
  exact not_of (wpAny_truthy_bool ⟨.bl (!c),H1,I1,rfl,q1⟩)
end
end L2
namespace L2
open PySem PySem.Spec PyProof.Rows
def SqL(K:PySem.W.Frag)(H:Hp)(a:Addr)(xs:List V):Prop :=
  Rd H a (.lst xs) ∨
    ∃(o:Obj) (its:Array Value) (n:Nat),K.lookup a=some o/\o.cls = .type "list" /\ o.dict=none/\o.data = .seq its n/\its.size<=sizeLine/\Vals xs its.toList
def SqT(K:PySem.W.Frag)(H:Hp)(a:Addr)(xs:List V):Prop :=
  Rd H a (.tup xs) ∨
    ∃(o:Obj) (its:Array Value) (n:Nat),K.lookup a=some o/\o.cls = .type "tuple" /\ o.data = .seq its n/\its.size<=sizeLine/\Vals xs its.toList
def Zp0:Value->Option V
  | .none=>some .non
  | .bool b=>some (.bl b)
  | .int i _=>some (.int i)
  | .str x _=>some (.str x)
  | .bytes b _=>some (.byt b)
  | .float b _=>some (.flt b)
  | .ref a=>some (.ref a)
  | .type n=>some (.ty n)
  | _=>none
theorem RelV.abs{x:V}{u:Value}(r:RelV x u):Zp0 u=some x:=by
  cases x with
  | non=>cases r; rfl
  | bl _=>cases r; rfl
  | int _=>obtain ⟨t,rfl⟩:=r; rfl
  | str _=>obtain ⟨t,rfl⟩:=r; rfl
  | byt _=>obtain ⟨t,rfl⟩:=r; rfl
  | flt _=>obtain ⟨t,rfl⟩:=r; rfl
  | ref _=>cases r; rfl
  | ty _=>cases r; rfl
theorem RelV.inj{x y:V}{u:Value}(r:RelV x u)(q:RelV y u):x=y:=Option.some.inj (r.abs.symm.trans q.abs)
theorem Vals.inj:∀ {xs ys:List V} {us:List Value},Vals xs us->Vals ys us->xs=ys
  | _,_,_,.nil,.nil=>rfl
  | _,_,_,.cons r t,.cons r' t'=>by rw[r.inj r',Vals.inj t t']
section
variable{X:Cx}{pins:List (Addr×Obj)}{σ:St}{H:Hp}{s:Shared}{a:Addr}{xs ys:List V}
theorem SqL.of{K:PySem.W.Frag}(h:H a=some (.lst xs)):SqL K H a xs:=.inl (.inl h)
theorem SqT.of{K:PySem.W.Frag}(h:H a=some (.tup xs)):SqT K H a xs:=.inl (.inl h)
theorem Inv.list(I:Inv X pins σ H s)(h:SqL X.K H a xs):∃its:List Value,Vals xs its/\PlainL s.heap a its.toArray/\xs.length<=sizeLine:=by
  rcases h with h | ⟨o,its,n,hk,hc,hd,hs,hz,r⟩
  · obtain ⟨z,its,n,r,e⟩:=h.ok I.hok
    exact ⟨its,r,⟨_,n,e,rfl,rfl,rfl⟩,z⟩
  · refine ⟨its.toList,r,⟨o,n,I.kIn a o hk,hc,hd,by simpa using hs⟩,?_⟩
    have e:=r.length
    simp only[Array.length_toList] at e
    omega
theorem Inv.tuple(I:Inv X pins σ H s)(h:SqT X.K H a xs):∃its:List Value,Vals xs its/\IsTup s.heap a its.toArray/\xs.length<=sizeLine:=by
  rcases h with h | ⟨o,its,n,hk,hc,hs,hz,r⟩
  · obtain ⟨z,its,r,p⟩:=h.ok I.hok
    exact ⟨its,r,p,z⟩
  · refine ⟨its.toList,r,⟨o,I.kIn a o hk,hc,n,by simpa using hs⟩,?_⟩
    have e:=r.length
    simp only[Array.length_toList] at e
    omega
theorem Inv.list_inj(I:Inv X pins σ H s)(h:SqL X.K H a xs)(h':SqL X.K H a ys):xs=ys:=by
  obtain ⟨its,r,⟨o,n,e,_,_,d⟩,_⟩:=I.list h
  obtain ⟨its',r',⟨o',n',e',_,_,d'⟩,_⟩:=I.list h'
  rw[e] at e'; cases e'
  rw[d] at d'
  injection d' with d1 _
  have:its=its':=by simpa using congrArg Array.toList d1
  subst this
  exact r.inj r'
end
abbrev Cx.wish(X:Cx)(E:Value->Shared->Prop):Cx:={ X with xe:=E }
abbrev Cx.nox(X:Cx):Cx:=X.wish λ_ _=>False
theorem Cx.Ok.wish{X:Cx}(ok:X.Ok)(E:Value->Shared->Prop):(X.wish E).Ok :=
  ⟨ok.mod,ok.kind,ok.glob,ok.blt,ok.above,ok.inj,ok.has,ok.cab,ok.hd,ok.frames,ok.stk,ok.exf,ok.bs,ok.bsz,ok.noex,ok.exfs,ok.funs,ok.frf⟩
theorem Cx.Ok.unwish{X:Cx}{E:Value->Shared->Prop}(ok:(X.wish E).Ok):X.Ok :=
  ⟨ok.mod,ok.kind,ok.glob,ok.blt,ok.above,ok.inj,ok.has,ok.cab,ok.hd,ok.frames,ok.stk,ok.exf,ok.bs,ok.bsz,ok.noex,ok.exfs,ok.funs,ok.frf⟩
section
variable{X:Cx}{pins:List (Addr×Obj)}{σ:St}{H:Hp}{s:Shared}{E:Value->Shared->Prop}
theorem Inv.wish(I:Inv X pins σ H s)(E:Value->Shared->Prop):Inv (X.wish E) pins σ H s:=⟨I.ok.wish E,I.os,I.bare,I.base,I.loc,I.cell,I.free,I.freeC,I.pin,I.hok,I.len⟩
theorem Inv.unwish(I:Inv (X.wish E) pins σ H s):Inv X pins σ H s:=⟨I.ok.unwish,I.os,I.bare,I.base,I.loc,I.cell,I.free,I.freeC,I.pin,I.hok,I.len⟩
theorem SP.unwish{D:Ends}{f:Flow}{s':Shared}(h:SP (X.wish E) pins D f s'):SP X pins D f s':=by
  cases f with
  | next=>obtain ⟨σ',H',I,q⟩:=h; exact ⟨σ',H',I.unwish,q⟩
  | brk=>obtain ⟨σ',H',I,q⟩:=h; exact ⟨σ',H',I.unwish,q⟩
  | cont=>obtain ⟨σ',H',I,q⟩:=h; exact ⟨σ',H',I.unwish,q⟩
  | ret u=>obtain ⟨v,σ',H',I,r,q⟩:=h; exact ⟨v,σ',H',I.unwish,r,q⟩
theorem PSs.nox{st:List Stmt}{t:TS}(h:PSs X.nox st t):PSs X st t:=λpins s σ H D I hw =>
  wpAny_mono (h pins s σ H D (I.wish _) hw) (λ_ _ q=>q.unwish) λ_ _ z=>False.elim z
end
section
variable{X:Cx}{st:Stmt}{ZjF:List Stmt}{t u:TS}{e:Expr}{te:TE}{pos:Pos}
def Zo8:TS:=λD σ H=>D.nx σ H
def Zo1(t u:TS):TS:=λD σ H=>t { D with nx:=u D } σ H
theorem Zat:PSs X [] Zo8:=λ_ _ σ H _ I h=>wpAny_execs_nil ⟨σ,H,I,h⟩
theorem Zab(h1:PS X st t)(h2:PSs X ZjF u):PSs X (st::ZjF) (Zo1 t u):=by
  intro pins s σ H D I h
  refine wpAny_execs_cons (thn (h1 pins s σ H { D with nx:=u D } I h) λf s1 q=>?_)
  cases f with
  | next =>
    obtain ⟨σ',H',I',q⟩:=q
    exact h2 pins s1 σ' H' D I' q
  | ret v=>exact q
  | brk=>exact q
  | cont=>exact q
theorem Zae(h1:PS X st t):PSs X [st] t:=by
  intro pins s σ H D I h
  refine wpAny_execs_cons (thn (h1 pins s σ H D I h) λf s1 q=>?_)
  cases f with
  | next=>exact wpAny_execs_nil q
  | ret v=>exact q
  | brk=>exact q
  | cont=>exact q
theorem Inv.quiet{pins:List (Addr×Obj)}{σ:St}{H:Hp}{s:Shared}(I:Inv X pins σ H s):interactive X.env=false:=by simp[interactive,I.ok.kind]
def Zo9(te:TE):TS:=λD σ H=>te σ H λ_ H1=>D.nx σ H1
theorem ZaE(he:PE X e te)(hs:swapsWith e none pos.line X.env=pure false:=by rfl):PS X (.Expr e pos) (Zo9 te):=by
  intro pins s σ H D I h
  exact wpAny_Expr_any (thn (he pins s σ H _ I h) λv s1 ⟨x,H1,I1,r1,q1⟩=>⟨σ,H1,I1,q1⟩) I.quiet hs
def Zp1(te:TE):TS:=λD σ H=>te σ H D.rt
theorem Zal(he:PE X e te):PS X (.Return (some e) pos) (Zp1 te):=by
  intro pins s σ H D I h
  exact wpAny_Return_some (thn (he pins s σ H _ I h) λv s1 ⟨x,H1,I1,r1,q1⟩=>⟨x,σ,H1,I1,r1,q1⟩)
def Zp2(c:TT)(t u:TS):TS:=λD σ H=>c σ H λb H1=>if b=true then t D σ H1 else u D σ H1
theorem ZaB{c:Expr}{a b:List Stmt}{tc:TT}(hc:PT X c tc)(ha:PSs X a t)(hb:PSs X b u):PS X (.If c a b pos) (Zp2 tc t u):=by
  intro pins s σ H D I h
  refine wpAny_If (thn (hc pins s σ H _ I h) λd s1 ⟨H1,I1,q1⟩=>?_)
  cases d with
  | true=>exact ha pins s1 σ H1 D I1 q1
  | false=>exact hb pins s1 σ H1 D I1 q1
def Zn4:TS:=λ_ _ _=>False
theorem Zlj:PS X st Zn4:=λ_ _ _ _ _ _ h=>h.elim
end
abbrev TG:=V->St->Hp->(St->Hp->Prop)->Prop
abbrev TGs:=List V->St->Hp->(St->Hp->Prop)->Prop
def PG(X:Cx)(target:Expr)(t:TG):Prop :=
  ∀(pins:List (Addr×Obj)) (s:Shared) (σ:St) (H:Hp) (v:V) (u:Value) (Q:St->Hp->Prop),Inv X pins σ H s->RelV v u->t v σ H Q →
    wpAny (model X.prog X.w) X.A (assign target X.env u) (λ_ s'=>∃σ' H',Inv X pins σ' H' s'/\Q σ' H') X.xe s
def PGs(X:Cx)(ts:List Expr)(t:TGs):Prop :=
  ∀(pins:List (Addr×Obj)) (s:Shared) (σ:St) (H:Hp) (vs:List V) (us:List Value) (Q:St->Hp->Prop),Inv X pins σ H s->Vals vs us->t vs σ H Q →
    wpAny (model X.prog X.w) X.A (assignInOrder ((assignEach ts X.env).map (·.2)) us) (λ_ s'=>∃σ' H',Inv X pins σ' H' s'/\Q σ' H') X.xe s
abbrev Zpa:=V->V->V->Hp->(Hp->Prop)->Prop
def ZpK(X:Cx)(t:Zpa):Prop :=
  ∀(pins:List (Addr×Obj)) (s:Shared) (σ:St) (H:Hp) (o i v:V) (ov iv u:Value) (Q:Hp->Prop),Inv X pins σ H s->RelV o ov->RelV i iv->RelV v u->t o i v H Q →
    wpAny (model X.prog X.w) X.A (setItem ov iv u) (λ_ s'=>∃H',Inv X pins σ H' s'/\Q H') X.xe s
abbrev TIp:=V->V->Hp->VK->Prop
def PIp(X:Cx)(op:Operator)(t:TIp):Prop :=
  ∀(pins:List (Addr×Obj)) (s:Shared) (σ:St) (H:Hp) (x y:V) (v u:Value) (Q:VK),Inv X pins σ H s->RelV x v->RelV y u->t x y H Q →
    wpAny (model X.prog X.w) X.A (inplaceOp op v u) (EP X pins σ Q) X.xe s
section
variable{X:Cx}{pos:Pos}
def ZeA(i:Nat):TG:=λv σ H Q=>Q (σ.set i (some v)) H
theorem Zar{i:Nat}{x:Str}(hN:X.N.Nodup)(hi:X.N[i]?=some x)(hx:Loc X.env.scope x)(hf:X.fn x=true\/X.env.scope.names.lookup x=some .local:=by first | exact .inl rfl | exact .inr rfl | assumption):PG X (.Name x pos) (ZeA i):=by
  intro pins s σ H v u Q I r h
  exact wpAny_assign_Name (Zc4 I hN hi hx r (λs' I'=>⟨_,H,I',h⟩) hf)
def ZpL:TGs:=λvs σ H Q=>vs=[]/\Q σ H
def ZmM(t:TG)(u:TGs):TGs:=λvs σ H Q=>∃v r,vs=v::r/\t v σ H λσ' H'=>u r σ' H' Q
theorem Zhy:PGs X [] ZpL:=by
  intro pins s σ H vs us Q I r h
  obtain ⟨e,h⟩:=h
  subst e
  cases r
  exact assignInOrder_nil ⟨σ,H,I,h⟩
theorem Zc5{e:Expr}{es:List Expr}{t:TG}{u:TGs}(h1:PG X e t)(h2:PGs X es u)
    (hs:(assignEach (e::es) X.env).map (·.2)=assign e X.env::(assignEach es X.env).map (·.2):=by rfl):PGs X (e::es) (ZmM t u):=by
  intro pins s σ H vs us Q I r h
  obtain ⟨v,vr,e1,h⟩:=h
  subst e1
  cases r with
  | cons r rr =>
    rw[hs]
    refine assignInOrder_cons (thn (h1 pins s σ H _ _ _ I r h) λ_ s1 ⟨σ1,H1,I1,q1⟩=>?_)
    exact h2 pins s1 σ1 H1 _ _ Q I1 rr q1
def Zpb(K:PySem.W.Frag)(n:Nat)(t:TGs):TG:=λv σ H Q=>∃a xs,v = .ref a/\SqT K H a xs/\xs.length=n/\t xs σ H Q
theorem Zmf{es:List Expr}{k:Nat}{t:TGs}{n:Nat}(hc:X.calm=true)(h:PGs X es t)
    (hn:(assignEach es X.env).length=n:=by rfl) (hst:(assignEach es X.env).findIdx? (·.1)=none:=by rfl):PG X (.Tuple es k pos) (Zpb X.K n t):=by
  intro pins s σ H v u Q I r hw
  obtain ⟨a,xs,e1,hq,hl,hw⟩:=hw
  subst e1
  cases r
  obtain ⟨its,rv,ht,hz⟩:=I.tuple hq
  refine assign_Tuple_tuple (I.ok.hd hc) ht (by simp[hn,<-hl,rv.length]) hst λh' hx=>?_
  have I1:Inv X pins σ H { s with heap:=h' }:=I.kept (t':=s.toks) λb o e=>hx b o (Qg (Heap.lt_size e)) e
  exact h pins _ σ H xs _ Q I1 (by simpa using rv) hw
def Zp3(to ti:TE)(t:Zpa):TG:=λv σ H Q=>to σ H λo H1=>ti σ H1 λi H2=>t o i v H2 λH3=>Q σ H3
theorem Zer{o i:Expr}{to ti:TE}{t:Zpa}(ho:PE X o to)(hi:PE X i ti)(hs:ZpK X t)
    (ha:∀v,assign (.Subscript o i pos) X.env v=(do
      let ov ← holding [v] (eval o X.env)
      let iv ← holding [v,ov] (eval i X.env)
      standAt pos
      holding [v,ov,iv] (setItem ov iv v)
      release [v,ov,iv] []):=by intro _; rfl):PG X (.Subscript o i pos) (Zp3 to ti t):=by
  intro pins s σ H v u Q I r h
  rw[ha]
  refine wpAny_bind (wpAny_holding (thn (ho pins s σ H _ I h) λov s1 ⟨x,H1,I1,r1,q1⟩=>?_))
  refine wpAny_bind (wpAny_holding (thn (hi pins s1 σ H1 _ I1 q1) λiv s2 ⟨y,H2,I2,r2,q2⟩=>?_))
  refine wpAny_bind (wpAny_standAt (wpAny_bind (wpAny_holding (thn (hs pins s2 σ H2 x y v ov iv u _ I2 r1 r2 r q2) λ_ s3 ⟨H3,I3,q3⟩=>?_))))
  exact wpAny_release ⟨σ,H3,I3,q3⟩
def Zpc(te:TE)(g:TG):TS:=λD σ H=>te σ H λx H1=>g x σ H1 D.nx
theorem Zes{tg e:Expr}{te:TE}{g:TG}(he:PE X e te)(hg:PG X tg g)(hs:swapsWithSole [tg] e pos.line X.env=pure false:=by rfl)(hw:swappedStores [tg] e X.env=pure none:=by rfl)
    (h1:(assignEach [tg] X.env).map (·.2)=[assign tg X.env]:=by rfl):PS X (.Assign [tg] e pos) (Zpc te g):=by
  intro pins s σ H D I h
  refine wpAny_Assign_stores (thn (he pins s σ H _ I h) λv s1 ⟨x,H1,I1,r1,q1⟩=>?_) hs hw
  rw[h1]
  exact thn (hg pins s1 σ H1 x v _ I1 r1 q1) λ_ s2 q=>q
theorem Zaj{i:Nat}{x:Str}{e:Expr}{te:TE}{pos':Pos}(hN:X.N.Nodup)(hi:X.N[i]?=some x)(hx:Loc X.env.scope x)(he:PE X e te)(hs:swapsWith e (some (.Name x pos')) pos.line X.env=pure false:=by rfl)(hf:X.fn x=true\/X.env.scope.names.lookup x=some .local:=by first | exact .inl rfl | exact .inr rfl | assumption) :
    PS X (.Assign [.Name x pos'] e pos) (Zpc te (ZeA i)):=by
  intro pins s σ H D I h
  refine wpAny_Assign_Name (thn (he pins s σ H _ I h) λv s1 ⟨y,H1,I1,r1,q1⟩=>?_) hs
  exact Zc4 I1 hN hi hx r1 (λs2 I2=>⟨_,H1,I2,q1⟩) hf
def Zp4(i j:Nat)(ta:TA):TS:=λD σ H=>ta σ H λvs H1=>∃v w,vs=[v,w]/\D.nx ((σ.set i (some v)).set j (some w)) H1
theorem Zn5{i j:Nat}{x y:Str}{a b:Expr}{ta:TA}{px py pt:Pos}{kt k2 pt2}(hc:X.calm=true)(hN:X.N.Nodup)(hi:X.N[i]?=some x)(hj:X.N[j]?=some y)(hij:i≠j)
    (hx:X.env.scope.names.lookup x=some .local) (hy:X.env.scope.names.lookup y=some .local) (ha:PA X [a,b] ta)
    (hw:swappedStores [.Tuple [.Name x px,.Name y py] kt pt] (.Tuple [a,b] k2 pt2) X.env=pure (some [x,y]))
    (hs:swapsWithSole [.Tuple [.Name x px,.Name y py] kt pt] (.Tuple [a,b] k2 pt2) pos.line X.env=pure false:=by rfl) :
    PS X (.Assign [.Tuple [.Name x px,.Name y py] kt pt] (.Tuple [a,b] k2 pt2) pos) (Zp4 i j ta):=by
  intro pins s σ H D I h
  rw[exec_Assign_arm]
  refine wpAny_bind (wpAny_standAt ?_)
  rw[hs]
  refine wpAny_bind (wpAny_pure ?_)
  rw[if_neg ∅]
  refine wpAny_bind (Tuple_ (thn (ha _ pins s σ H _ I h) λus s1 ⟨vs,H1,I1,r1,q1⟩=>?_))
  obtain ⟨v,w,e1,q1⟩:=q1
  subst e1
  obtain ⟨u1,u2,rfl,rv,rw'⟩:∃u1 u2,us=[u1,u2]/\RelV v u1/\RelV w u2:=by
    cases r1 with
    | cons p q =>
      cases q with
      | cons p' q' =>
        cases q'
        exact ⟨_,_,rfl,p,p'⟩
  refine wpAny_newObj_type ?_ (by show 2<=sizeLine; decide)
  have I2:Inv X pins σ H1 { s1 with heap:=s1.heap.push { cls:=.type "tuple", data:=.seq [u1,u2].toArray } }:=I1.kept (t':=s1.toks) λb o e=>Heap.get?_push_of_some _ e
  rw[hw]
  refine wpAny_bind (wpAny_pure ?_)
  show wpAny (model X.prog X.w) X.A (do rule "assign.swapped-stores"; let items ← unpackItems (.ref s1.heap.objs.size) 2 none; assignInOrder [λv=>bindName X.env y v,λv=>bindName X.env x v] items.reverse; pure Flow.next) _ _ _
  refine wpAny_bind (wpAny_rule (wpAny_bind (unpackItems_tuple (items:=#[u1,u2]) (I.ok.hd hc) (IsTup.new s1.heap _) λh' hx'=>?_)))
  have I3:=I2.kept (h':=h') (t':=s1.toks) λb o e=>hx' b o (Qg (Heap.lt_size e)) e
  show wpAny _ _ (assignInOrder [λv=>bindName X.env y v,λv=>bindName X.env x v] [u2,u1] >>= λ_=>pure Flow.next) _ _ _
  refine wpAny_bind (assignInOrder_cons (wpAny_bindName (Zc4 I3 hN hj (.inl hy) rw' (λs2 I4=>?_) (.inr hy))))
  refine assignInOrder_cons (wpAny_bindName (Zc4 I4 hN hi (.inl hx) rv (λs3 I5=>assignInOrder_nil (wpAny_pure ?_)) (.inr hx)))
  rw[List.set_comm _ _ (Ne.symm hij)] at I5
  exact ⟨_,H1,I5,q1⟩
def Zp5(i:Nat)(te:TE)(ti:TIp):TS:=λD σ H=>∃x,σ[i]?=some (some x)/\te σ H λy H1=>ti x y H1 λz H2=>D.nx (σ.set i (some z)) H2
theorem ZjG{i:Nat}{x:Str}{e:Expr}{te:TE}{op:Operator}{ti:TIp}{pos':Pos}(hN:X.N.Nodup)(hi:X.N[i]?=some x)(hx:Loc X.env.scope x)(he:PE X e te)(ho:PIp X op ti)(hf:X.fn x=true\/X.env.scope.names.lookup x=some .local:=by first | exact .inl rfl | exact .inr rfl | assumption) :
    PS X (.AugAssign (.Name x pos') op e pos) (Zp5 i te ti):=by
  intro pins s σ H D I h
  obtain ⟨v,e1,h⟩:=h
  obtain ⟨m,hn,hl⟩:=I.loc
  have vis:Vis X.env.scope x:=by rcases hx with k | k; exact .inl k; exact .inr (.inl k)
  obtain ⟨u,r,l⟩:=hl i x v hi e1 vis
  refine wpAny_AugAssign_Name ?_
  have go:wpAny (model X.prog X.w) X.A (eval e X.env) (λw s₂=>wpAny (model X.prog X.w) X.A (inplaceOp op u w) (λr s₃=>wpAny (model X.prog X.w) X.A (storeName X.env x r) (λ_=>SP X pins D .next) X.xe s₃) X.xe s₂) X.xe s:=by
    refine thn (he pins s σ H _ I h) λw s1 ⟨y,H1,I1,r1,q1⟩=>?_
    refine thn (ho pins s1 σ H1 v y u w _ I1 r r1 q1) λz s2 ⟨zv,H2,I2,r2,q2⟩=>?_
    exact Zc4 I2 hN hi hx r2 (λs3 I3=>⟨_,H2,I3,q2⟩) hf
  rcases l with ⟨hk,hm⟩ | ⟨hk,c,hc,hcell⟩
  · exact wpAny_loadName_local I.ok.kind hk hn hm go
  · rcases hk with hk | hk
    · exact wpAny_loadName_cell I.ok.kind hk hc hcell go
    · rcases hx with k | k
      · have:X.env.scope.names.lookup x=some .free:=hk
        rw[k] at this; cases this
      · have:X.env.scope.names.lookup x=some .free:=hk
        rw[k] at this; cases this
def ipI(f:Int->Int->Int):TIp:=λx y H Q=>∃i j,x = .int i/\y = .int j/\Q (.int (f i j)) H
theorem Zmg:PIp X .Add (ipI λi j=>i+j):=by
  intro pins s σ H x y v u Q I r1 r2 h
  obtain ⟨i,j,e1,e2,q⟩:=h
  subst e1; subst e2
  obtain ⟨t,rfl⟩:=r1
  obtain ⟨t',rfl⟩:=r2
  exact iadd_int ⟨.int _,H,I.tok _,⟨_,rfl⟩,q⟩
end
section
variable{X:Cx}{pos:Pos}
def Zn6(c:TT)(tb:TS):TS:=λD σ H=>∃W:Nat->St->Hp->Prop,(∃m,W m σ H)/\∀m σ H,W m σ H →
  c σ H λb H1=>if b=true then ∃N:St->Hp->Prop,(∀σ' H',N σ' H'->∃m',m'<m/\W m' σ' H')/\tb { D with nx:=N,ct:=N,bk:=D.nx } σ H1 else D.nx σ H1
theorem ZbN{c:Expr}{body:List Stmt}{tc:TT}{tb:TS}(hp:PassesOwn (model X.prog X.w) X.A X.env X.xe)(hc:PT X c tc)(hb:PSs X body tb):PS X (.While c body [] pos) (Zn6 tc tb):=by
  intro pins s σ H D I h
  obtain ⟨W,⟨m0,w0⟩,turn⟩:=h
  refine wpAny_While (codeAny_whileLoop (λn s'=>∃σ' H',Inv X pins σ' H' s'/\W n σ' H') ?_ m0 ⟨σ,H,I,w0⟩)
  rintro n s1 ⟨σ1,H1,I1,w1⟩
  refine wpAny_passesOwn hp (thn (hc pins s1 σ1 H1 _ I1 (turn n σ1 H1 w1)) λb s2 ⟨H2,I2,q2⟩=>?_)
  cases b with
  | true =>
    obtain ⟨N,hN,q2⟩:=q2
    rw[if_pos rfl]
    refine wpAny_passesOwn hp (thn (hb pins s2 σ1 H2 _ I2 q2) λf s3 q3=>?_)
    cases f with
    | next =>
      obtain ⟨σ3,H3,I3,n3⟩:=q3
      obtain ⟨m',hm,w3⟩:=hN σ3 H3 n3
      exact ⟨m',hm,σ3,H3,I3,w3⟩
    | cont =>
      obtain ⟨σ3,H3,I3,n3⟩:=q3
      obtain ⟨m',hm,w3⟩:=hN σ3 H3 n3
      exact ⟨m',hm,σ3,H3,I3,w3⟩
    | brk=>exact q3
    | ret v=>exact q3
  | false =>
    rw[if_neg Qu]
    exact wpAny_execs_nil ⟨σ1,H2,I2,q2⟩
end
structure It where
  go:Nat->Hp->Prop
  yld:Nat->Hp->V->Hp->Prop
  stop:Nat->Hp->Prop
def ZjH(X:Cx)(pins:List (Addr×Obj))(H:Hp)(b:Addr):Prop :=
  H b=none/\b≠X.env.locals/\b∉X.fs/\(b∈X.ex\/X.s₀.heap.objs.size<=b)/\(∀x c,X.env.cells.lookup x=some c->c≠b)/\∀p∈X.pn++pins,p.1≠b
theorem Inv.fpOk{X:Cx}{pins:List (Addr×Obj)}{σ:St}{H H':Hp}{s:Shared}{b:Addr}(I:Inv X pins σ H s)(hb:s.heap.objs.size<=b)(hn:H' b=none):ZjH X pins H' b:=by
  refine ⟨hn,Up (Q7 I.lt hb),I.nofs hb,.inr (Q0 I.sz hb),λx c e z=>?_,λp hp z=>?_⟩
  · obtain ⟨v,q⟩:=I.cell x c e
    exact absurd (Q7 q.lt (by rw[z]; exact hb)) (W0 _)
  · exact absurd (Q7 (Heap.lt_size (I.pin p hp).1) (by rw[z]; exact hb)) (W0 _)
structure Turn (P:Program) (w:World) (K:PySem.W.Frag) (tg:Expr) (J:It) (fp:List Addr) (it:Addr) (tn:Nat->Heap->Prop):Prop where
  mem:it∈fp
  obj:∀i h,tn i h->∀b∈fp,∃o,h.get? b=some o/\∀v,o.data ≠ .cell v
  keep:∀i h h',tn i h->(∀b∈fp,∀o,h.get? b=some o->h'.get? b=some o)->tn i h'
  item:∀(X:Cx),X.prog=P->X.w=w->X.K=K->X.calm=true->∀(i:Nat) (pins:List (Addr×Obj)) (s:Shared) (σ:St) (H:Hp) (E:Value->Shared->Prop),Inv X pins σ H s->(∀b∈fp,ZjH X pins H b)->tn i s.heap->J.go i H →
    wpAny (model P w) X.A (pyNext (.ref it)) (λr s1=>∃u,r=some u ∧
      wpAny (model P w) X.A (letOwnedTupleGo tg (.ref it) u) (λ_ s2=>∃x H',Inv X pins σ H' s2/\RelV x u/\J.yld i H x H'/\tn (i+1) s2.heap/\∀b∈fp,H' b=none) E s1) E s
  done:∀(X:Cx),X.prog=P->X.w=w->X.K=K->X.calm=true->∀(i:Nat) (pins:List (Addr×Obj)) (s:Shared) (σ:St) (H:Hp) (E:Value->Shared->Prop),Inv X pins σ H s->(∀b∈fp,ZjH X pins H b)->tn i s.heap->J.stop i H →
    wpAny (model P w) X.A (pyNext (.ref it)) (λr s1=>r=none/\Inv X pins σ H s1) E s
  self:∀(A:Around) (i:Nat) (s:Shared) (Q:Value->Shared->Prop) (E:Value->Shared->Prop),tn i s.heap->Q (.ref it) s->wpAny (model P w) A (pyIter (.ref it)) Q E s
abbrev TI:=St->Hp->(It->Hp->Prop)->Prop
def PIE(X:Cx)(pins:List (Addr×Obj))(σ:St)(tg:Expr)(R:It->Hp->Prop)(itv:Value)(s2:Shared):Prop :=
  ∃(it:Addr) (fp:List Addr) (tn:Nat->Heap->Prop) (J:It) (H':Hp),itv = .ref it/\Inv X pins σ H' s2/\Turn X.prog X.w X.K tg J fp it tn/\tn 0 s2.heap/\(∀b∈fp,ZjH X pins H' b)/\R J H'
def PI(X:Cx)(tg iter:Expr)(wi:TI):Prop :=
  ∀(pins:List (Addr×Obj)) (s:Shared) (σ:St) (H:Hp) (R:It->Hp->Prop),Inv X pins σ H s->wi σ H R →
    wpAny (model X.prog X.w) X.A (eval iter X.env) (λv s1=>wpAny (model X.prog X.w) X.A (pyIter v) (PIE X pins σ tg R) X.xe s1) X.xe s
theorem ZmN{M:Model}{A:Around}{E:Value->Shared->Prop}{s:Shared}{tg:Expr}{it:Addr}{u:Value}{o:Obj}{n:String}{vs:Array Value}{Q:Unit->Shared->Prop}(ho:s.heap.get? it=some o)(hc:o.cls = .type n)(hd:o.data = .fields vs)
    (hn:["enumerate", "zip", "dict_itemiterator", "dict_reverseitemiterator", "odict_iterator", "itertools.zip_longest", "itertools.pairwise"].contains n=false) (hQ:Q () s):wpAny M A (letOwnedTupleGo tg (.ref it) u) Q E s:=by
  unfold letOwnedTupleGo
  cases tg <;> first
    | exact wpAny_pure hQ
    | (cases u <;> first
        | exact wpAny_pure hQ
        | (refine wpAny_bind (wpAny_load ho ?_)
           rw[hc,hd]
           show wpAny M A (if (["enumerate", "zip", "dict_itemiterator", "dict_reverseitemiterator", "odict_iterator", "itertools.zip_longest", "itertools.pairwise"].contains n&&vs[0]?==some (rawInt _))=true then _ else _) Q E s
           rw[if_neg (by intro h; rw[hn,Bool.false_and] at h; cases h)]
           exact wpAny_pure hQ))
def Itl(K:PySem.W.Frag)(a:Addr):It :=
  ⟨λi H=>∃xs x,SqL K H a xs/\xs[i]?=some x,λi H x H'=>H'=H/\∀xs,SqL K H a xs->xs[i]?=some x,λi H=>∃xs,SqL K H a xs/\xs.length<=i⟩
def Itr(lo:Int)(n:Nat):It:=⟨λi _=>i<n,λi H x H'=>H'=H/\x = .int (lo+i),λi _=>n<=i⟩
theorem ZjI{P:Program}{w:World}{K:PySem.W.Frag}{tg:Expr}(a it:Addr):Turn P w K tg (Itl K a) [it] it (λi h=>h.IsListIter it a i) where
  mem:=by simp
  obj:=λi h st b hb=>by
    have e:b=it:=by simpa using hb
    subst e
    obtain ⟨o,e,c,d⟩:=st
    exact ⟨o,e,λv z=>by rw[d] at z; cases z⟩
  keep:=λi h h' st k=>st.at λo e=>k it (by simp) o e
  item:=by
    intro X hP hw hK hc i pins s σ H E I hf st hg
    subst hP hw hK
    obtain ⟨xs,x,hq,hx⟩:=hg
    obtain ⟨its,rv,p,hz⟩:=I.list hq
    obtain ⟨u,hu,ru⟩:=rv.get hx
    obtain ⟨f0,f1,f2,f3,f4,f5⟩:=hf it (by simp)
    refine wpAny_pyNext_list_item st p.isList (x:=u) (by simpa using hu) λh' st' sb=>?_
    have I1:Inv X pins σ H { s with heap:=h' }:=I.turned (t':=s.toks) (λb o hb e=>(sb.2 b hb).trans e) f0 f1 f3 f4 f5
    obtain ⟨o,e,c,d⟩:=id st'
    exact ⟨u,rfl,ZmN (s:={ s with heap:=h' }) e c d ∅ ⟨x,H,I1,ru,⟨rfl,λys hy=>by rw[I.list_inj hy hq]; exact hx⟩,st',λb hb=>(hf b hb).1⟩⟩
  done:=by
    intro X hP hw hK hc i pins s σ H E I hf st hg
    subst hP hw hK
    obtain ⟨xs,hq,hx⟩:=hg
    obtain ⟨its,rv,p,hz⟩:=I.list hq
    obtain ⟨f0,f1,f2,f3,f4,f5⟩:=hf it (by simp)
    have hl:=rv.length
    exact wpAny_pyNext_list_end (I.ok.hd hc) st p.isList (by simp; omega) λh' eb=>⟨rfl,I.turned (t':=s.toks) (λb o hb e=>eb b o hb e) f0 f1 f3 f4 f5⟩
  self:=λ_ _ _ _ _ st h=>wpAny_pyIter_listiter st h
theorem ZiX{P:Program}{w:World}{K:PySem.W.Frag}{tg:Expr}(it:Addr)(lo:Int)(n:Nat):Turn P w K tg (Itr lo n) [it] it (λi h=>IsRangeIter h it (lo+(i:Nat)*1) ((n:Int)-(i:Nat)) 1) where
  mem:=by simp
  obj:=λi h st b hb=>by
    have e:b=it:=by simpa using hb
    subst e
    exact ⟨_,st,λv z=>by
      have z':Data.fields _=Data.cell v:=z
      cases z'⟩
  keep:=λi h h' st k=>k it (by simp) _ st
  item:=by
    intro X hP hw hK hc i pins s σ H E I hf st hg
    subst hP hw hK
    obtain ⟨f0,f1,f2,f3,f4,f5⟩:=hf it (by simp)
    have W:=Walks.range (prog:=X.prog) (w:=X.w) (I.ok.hd hc) it lo 1 n
    refine W.item i s _ _ hg st λv h' tk hv st' kk=>?_
    obtain ⟨t,rfl⟩:=hv
    have I1:Inv X pins σ H { s with heap:=h',toks:=tk }:=I.turned (λb o hb e=>kk b o (by simpa using hb) e) f0 f1 f3 f4 f5
    refine ⟨_,rfl,ZmN (s:={ s with heap:=h',toks:=tk }) (n := "range_iterator") st' rfl rfl ∅ ⟨.int (lo+i),H,I1,⟨t,?_⟩,⟨rfl,rfl⟩,st',λb hb=>(hf b hb).1⟩⟩
    rw[U8]
  done:=by
    intro X hP hw hK hc i pins s σ H E I hf st hg
    subst hP hw hK
    obtain ⟨f0,f1,f2,f3,f4,f5⟩:=hf it (by simp)
    exact wpAny_pyNext_range_end (I.ok.hd hc) st (by have:n<=i:=hg; omega) λh' eb=>⟨rfl,I.turned (t':=s.toks) (λb o hb e=>eb b o hb e) f0 f1 f3 f4 f5⟩
  self:=λ_ _ _ _ _ st h=>wpAny_pyIter_rangeiter st h
end L2
namespace L2
open PySem PySem.Spec PyProof.Rows
section
variable{X:Cx}{tg:Expr}
def Zpd(K:PySem.W.Frag)(tl:TE):TI:=λσ H R=>tl σ H λx H1=>∃a,x = .ref a/\(∃xs,SqL K H1 a xs)/\R (Itl K a) H1
theorem ZaC{l:Expr}{tl:TE}(hl:PE X l tl):PI X tg l (Zpd X.K tl):=by
  intro pins s σ H R I h
  refine thn (hl pins s σ H _ I h) λv s1 ⟨x,H1,I1,r1,q1⟩=>?_
  obtain ⟨a,e,⟨xs,hq⟩,q⟩:=q1
  subst e
  cases r1
  obtain ⟨its,rv,p,hz⟩:=I1.list hq
  refine wpAny_pyIter_list p.isList ?_
  refine ⟨s1.heap.objs.size,[s1.heap.objs.size],_,_,H1,rfl,I1.kept (t':=s1.toks) λb o e=>Heap.get?_push_of_some _ e,ZjI a _,⟨_,Heap.get?_push_size _ rfl,rfl,rfl⟩,λb hb=>?_,q⟩
  have e:b=s1.heap.objs.size:=by simpa using hb
  subst e
  exact I1.fpOk (Q4 _) (I1.hok.fresh (Q4 _))
theorem Zin{pins:List (Addr×Obj)}{σ:St}{H:Hp}{s:Shared}{R:It->Hp->Prop}{E:Value->Shared->Prop}{lo hi:Int}{t u v:Tok}{tk:Nat}(I:Inv X pins σ H s)(h1:-(2^62)<=lo)(h2:lo<2^62)(h3:-(2^62)<=hi)(h4:hi<2^62)
    (q:R (Itr lo (hi-lo).toNat) H):wpAny (model X.prog X.w) X.A (pyIter (.ref s.heap.objs.size)) (PIE X pins σ tg R) E { s with heap:=s.heap.push { cls:=.type "range", data:=.fields #[.int lo t,.int hi u,.int 1 v] },toks:=tk }:=by
  refine wpAny_pyIter_range (IsRange.new ..) (small_one h1 h2 h3 h4) ?_
  have I1:Inv X pins σ H { s with heap:=s.heap.push { cls:=.type "range", data:=.fields #[.int lo t,.int hi u,.int 1 v] },toks:=tk }:=I.kept λb o e=>Heap.get?_push_of_some _ e
  refine ⟨(s.heap.push { cls:=.type "range", data:=.fields #[.int lo t,.int hi u,.int 1 v] }).objs.size,[(s.heap.push { cls:=.type "range", data:=.fields #[.int lo t,.int hi u,.int 1 v] }).objs.size],_,_,H,rfl,
    I1.kept (t':=tk) λb o e=>Heap.get?_push_of_some _ e,ZiX _ lo (hi-lo).toNat,?_,λb hb=>?_,q⟩
  · have e1:lo+((0:Nat):Int)*1=lo:=by simp
    have e2:(((hi-lo).toNat:Nat):Int)-((0:Nat):Int)=Builtin.Range.rangeSize lo hi 1:=by rw[rangeSize_one]; split <;> omega
    show IsRangeIter _ _ (lo+((0:Nat):Int)*1) ((((hi-lo).toNat:Nat):Int)-((0:Nat):Int)) 1
    rw[e1,e2]
    exact Heap.get?_push_size _ rfl
  · have e:b=(s.heap.push { cls:=.type "range", data:=.fields #[.int lo t,.int hi u,.int 1 v] }).objs.size:=by simpa using hb
    subst e
    exact I1.fpOk (Q4 _) (I1.hok.fresh (Q4 _))
def Zpe(ta:TA):TI:=λσ H R=>ta σ H λvs H1=>∃j:Int,vs=[.int j] /\ -(2^62)<=j/\j<2^62/\R (Itr 0 j.toNat) H1
def Zpf(ta:TA):TI:=λσ H R=>ta σ H λvs H1=>∃i j:Int,vs=[.int i,.int j]/\(-(2^62)<=i/\i<2^62 /\ -(2^62)<=j/\j<2^62)/\R (Itr i (j-i).toNat) H1
theorem Zay{a:Expr}{ta:TA}{p pos:Pos}(hg:Gl X "range") (hm:X.mg "range" = none) (ha:PA X [a] ta) (hs:starEach [a] X.env=[(false,eval a X.env)]:=by rfl):PI X tg (.Call (.Name "range" p) [a] [] pos) (Zpe ta):=by
  intro pins s σ H R I h
  refine Call_ (ZdD I hg hm boot_range (PyProof.Rows.callWith_type1 (thn (ha pos pins s σ H _ I h) λus s1 ⟨vs,H1,I1,r1,q1⟩=>?_) hs rfl))
  obtain ⟨j,e,q1,q2,q⟩:=q1
  subst e
  cases r1 with
  | cons r rr =>
    cases rr
    obtain ⟨t,rfl⟩:=r
    exact call_range_1 (Zin I1 ⋯ ⋯ q1 q2 (by simpa using q))
theorem ZeO{a b:Expr}{ta:TA}{p pos:Pos}(hg:Gl X "range") (hm:X.mg "range" = none) (ha:PA X [a,b] ta) (hs:starEach [a,b] X.env=[(false,eval a X.env),(false,eval b X.env)]:=by rfl) (hs2:starEach [b] X.env=[(false,eval b X.env)]:=by rfl) :
    PI X tg (.Call (.Name "range" p) [a,b] [] pos) (Zpf ta):=by
  intro pins s σ H R I h
  refine Call_ (ZdD I hg hm boot_range (PyProof.Rows.callWith_type1 (thn (ha pos pins s σ H _ I h) λus s1 ⟨vs,H1,I1,r1,q1⟩=>?_) (by rw[hs,hs2]) (by rw[hs2]; rfl)))
  obtain ⟨i,j,e,⟨q1,q2,q3,q4⟩,q⟩:=q1
  subst e
  cases r1 with
  | cons r rr =>
    cases rr with
    | cons r' rr =>
      cases rr
      obtain ⟨t,rfl⟩:=r
      obtain ⟨t',rfl⟩:=r'
      exact call_range_2 (Zin I1 q1 q2 q3 q4 q)
def Zp6(wi:TI)(g:TG)(tb:TS):TS:=λD σ H=>wi σ H λJ H1=>∃W:Nat->Nat->St->Hp->Prop,(∃m,W 0 m σ H1)/\∀i m σ H,W i m σ H →
  (J.stop i H/\D.nx σ H)\/(J.go i H/\∃N:St->Hp->Prop,(∀σ' H',N σ' H'->∃m',m'<m/\W (i+1) m' σ' H')/\∀x H',J.yld i H x H'->g x σ H' λσ2 H2=>tb { D with nx:=N,ct:=N,bk:=D.nx } σ2 H2)
def Zio(fp:List Addr)(h:Heap):List (Addr×Obj):=fp.filterMap λb=>(h.get? b).map λo=>(b,o)
theorem Zc6{fp:List Addr}{h:Heap}{b:Addr}{o:Obj}(hb:b∈fp)(e:h.get? b=some o):(b,o)∈Zio fp h:=List.mem_filterMap.mpr ⟨b,hb,by rw[e]; rfl⟩
theorem ZjJ{fp:List Addr}{h:Heap}{p:Addr×Obj}(hp:p∈Zio fp h):p.1∈fp/\h.get? p.1=some p.2:=by
  obtain ⟨b,hb,e⟩:=List.mem_filterMap.mp hp
  cases q:h.get? b with
  | none=>rw[q] at e; cases e
  | some o =>
    rw[q] at e
    have e':(b,o)=p:=Option.some.inj e
    subst e'
    exact ⟨hb,q⟩
theorem Inv.pinned{pins:List (Addr×Obj)}{σ:St}{H:Hp}{s:Shared}{fp:List Addr}(I:Inv X pins σ H s)(hf:∀b∈fp,ZjH X pins H b)(ho:∀b∈fp,∃o,s.heap.get? b=some o/\∀v,o.data ≠ .cell v):Inv X (pins++Zio fp s.heap) σ H s :=
  I.pins_of λp hp=>(Qj.mp hp).elim (λz=>I.pin p (W1 _ z)) λz=>by
    obtain ⟨hb,e⟩:=ZjJ z
    obtain ⟨f0,f1,f2,_⟩:=hf p.1 hb
    obtain ⟨o,e',d⟩:=ho p.1 hb
    rw[e] at e'; cases e'
    exact ⟨e,f0,f1,f2,d⟩
theorem Inv.unpinned{pins pl:List (Addr×Obj)}{σ:St}{H:Hp}{s:Shared}(I:Inv X (pins++pl) σ H s):Inv X pins σ H s:=I.pins_of λp hp=>I.pin p (W1 _ (Ui _ hp))
theorem ZaI{iter:Expr}{body:List Stmt}{wi:TI}{g:TG}{tb:TS}{pos:Pos}(hp:PassesOwn (model X.prog X.w) X.A X.env X.xe)(hc:X.calm=true)(hi:PI X tg iter wi)(hg:PG X tg g)(hb:PSs X body tb)
    (hs:∀x,foldedSetIterable iter X.env x=pure x:=by intro _; rfl):PS X (.For tg iter body [] pos) (Zp6 wi g tb):=by
  intro pins s σ H D I h
  refine wpAny_For (thn (hi pins s σ H _ I h) λv s1 h1=>thn h1 λitv s2 h2=>?_) hs
  obtain ⟨it,fp,tn,J,H2,e,I2,T,st2,f2,W,⟨m0,w0⟩,turn⟩:=h2
  subst e
  have stat:∀ {H':Hp},(∀b∈fp,H' b=none)->∀b∈fp,ZjH X pins H' b:=λhn b hb=>⟨hn b hb,(f2 b hb).2⟩
  refine codeAny_forLoop_any (λn s'=>∃i σ' H',Inv X pins σ' H' s'/\tn i s'.heap/\(∀b∈fp,H' b=none)/\W i n σ' H') ?_ m0 ⟨0,σ,H2,I2,st2,λb hb=>(f2 b hb).1,w0⟩
  rintro n s3 ⟨i,σ3,H3,I3,st3,fr3,w3⟩
  rcases turn i n σ3 H3 w3 with ⟨stop,qn⟩ | ⟨go,N,hN,step⟩
  · refine wpAny_passesOwn hp (thn (T.done X rfl rfl rfl hc i pins s3 σ3 H3 X.xe I3 (stat fr3) st3 stop) λr s4 ⟨hr,I4⟩=>?_)
    subst hr
    exact wpAny_execs_nil ⟨σ3,H3,I4,qn⟩
  · refine wpAny_passesOwn hp (thn (T.item X rfl rfl rfl hc i pins s3 σ3 H3 X.xe I3 (stat fr3) st3 go) λr s4 ⟨u,hr,h4⟩=>?_)
    subst hr
    refine wpAny_passesOwn hp (thn h4 λ_ s5 ⟨x,H5,I5,r5,y5,st5,fr5⟩=>?_)
    have I5':=I5.pinned (stat fr5) (T.obj _ _ st5)
    refine wpAny_passesOwn hp (thn (hg _ s5 σ3 H5 x u _ I5' r5 (step x H5 y5)) λ_ s6 ⟨σ6,H6,I6,q6⟩=>?_)
    refine wpAny_passesOwn hp (thn (hb _ s6 σ6 H6 _ I6 q6) λf s7 q7=>?_)
    have again:∀ {σ7:St} {H7:Hp},Inv X (pins++Zio fp s5.heap) σ7 H7 s7->N σ7 H7->∃m,m<n/\∃i σ' H',Inv X pins σ' H' s7/\tn i s7.heap/\(∀b∈fp,H' b=none)/\W i m σ' H':=fun {σ7 H7} I7 n7=>by
      obtain ⟨m',hm,w7⟩:=hN σ7 H7 n7
      refine ⟨m',hm,i+1,σ7,H7,I7.unpinned,T.keep _ _ _ st5 λb hb o e=>(I7.pin (b,o) (W1 _ (W1 _ (Zc6 hb e)))).1,λb hb=>?_,w7⟩
      obtain ⟨o,e,d⟩:=T.obj _ _ st5 b hb
      exact (I7.pin (b,o) (W1 _ (W1 _ (Zc6 hb e)))).2.1
    cases f with
    | next=>obtain ⟨σ7,H7,I7,n7⟩:=q7; exact again I7 n7
    | cont=>obtain ⟨σ7,H7,I7,n7⟩:=q7; exact again I7 n7
    | brk=>obtain ⟨σ7,H7,I7,q7⟩:=q7; exact ⟨σ7,H7,I7.unpinned,q7⟩
    | ret v=>obtain ⟨x7,σ7,H7,I7,r7,q7⟩:=q7; exact ⟨x7,σ7,H7,I7.unpinned,r7,q7⟩
end
theorem Za8{K:PySem.W.Frag}{a:Addr}{xs:List V}{g:TG}{tb:TS}{D:Ends}{σ:St}{H:Hp}(Pv:Nat->St->Hp->Prop)(h0:Pv 0 σ H)(hl:∀i σ H,i<=xs.length->Pv i σ H->SqL K H a xs)
    (hs:∀i x σ H,xs[i]?=some x->Pv i σ H->g x σ H λσ2 H2=>tb { D with nx:=Pv (i+1),ct:=Pv (i+1),bk:=D.nx } σ2 H2) (hd:∀σ H,Pv xs.length σ H->D.nx σ H) :
    ∃W:Nat->Nat->St->Hp->Prop,(∃m,W 0 m σ H)/\∀i m σ H,W i m σ H →
      ((Itl K a).stop i H/\D.nx σ H)\/((Itl K a).go i H/\∃N:St->Hp->Prop,(∀σ' H',N σ' H'->∃m',m'<m/\W (i+1) m' σ' H')/\∀x H',(Itl K a).yld i H x H'->g x σ H' λσ2 H2=>tb { D with nx:=N,ct:=N,bk:=D.nx } σ2 H2):=by
  refine ⟨λi m σ H=>m=xs.length-i/\i<=xs.length/\Pv i σ H,⟨xs.length,by simp,Qh _,h0⟩,?_⟩
  rintro i m σ H ⟨rfl,hi,p⟩
  have q:=hl i σ H hi p
  by_cases hlt:i<xs.length
  · refine .inr ⟨⟨xs,xs[i],q,by simp[hlt]⟩,Pv (i+1),λσ' H' p'=>⟨xs.length-(i+1),⋯,rfl,hlt,p'⟩,λx H' y=>?_⟩
    obtain ⟨e,y⟩:=y
    subst e
    exact hs i x σ _ (y xs q) p
  · have e:i=xs.length:=by omega
    subst e
    exact .inl ⟨⟨xs,q,Q4 _⟩,hd σ H p⟩
theorem ZaG{lo:Int}{n:Nat}{g:TG}{tb:TS}{D:Ends}{σ:St}{H:Hp}(Pv:Nat->St->Hp->Prop)(h0:Pv 0 σ H)
    (hs:∀i σ H,i<n->Pv i σ H->g (.int (lo+i)) σ H λσ2 H2=>tb { D with nx:=Pv (i+1),ct:=Pv (i+1),bk:=D.nx } σ2 H2) (hd:∀σ H,Pv n σ H->D.nx σ H) :
    ∃W:Nat->Nat->St->Hp->Prop,(∃m,W 0 m σ H)/\∀i m σ H,W i m σ H →
      ((Itr lo n).stop i H/\D.nx σ H)\/((Itr lo n).go i H/\∃N:St->Hp->Prop,(∀σ' H',N σ' H'->∃m',m'<m/\W (i+1) m' σ' H')/\∀x H',(Itr lo n).yld i H x H'->g x σ H' λσ2 H2=>tb { D with nx:=N,ct:=N,bk:=D.nx } σ2 H2):=by
  refine ⟨λi m σ H=>m=n-i/\i<=n/\Pv i σ H,⟨n,by simp,Qh _,h0⟩,?_⟩
  rintro i m σ H ⟨rfl,hi,p⟩
  by_cases hlt:i<n
  · refine .inr ⟨hlt,Pv (i+1),λσ' H' p'=>⟨n-(i+1),⋯,rfl,hlt,p'⟩,λx H' y=>?_⟩
    obtain ⟨e,y⟩:=y
    subst e y
    exact hs i σ _ hlt p
  · have e:i=n:=by omega
    subst e
    exact .inl ⟨Q4 _,hd σ H p⟩
end L2
namespace L2
open PySem PySem.Spec PyProof.Rows
abbrev R2:=V->V->Hp->VK->Prop
def OpR(X:Cx)(f:Value->Value->Sem Value)(r:R2):Prop :=
  ∀(pins:List (Addr×Obj)) (s:Shared) (σ:St) (H:Hp) (x y:V) (v u:Value) (Q:VK),Inv X pins σ H s->RelV x v->RelV y u->r x y H Q →
    wpAny (model X.prog X.w) X.A (f v u) (EP X pins σ Q) X.xe s
def UnR(X:Cx)(f:Value->Sem Value)(r:V->Hp->VK->Prop):Prop :=
  ∀(pins:List (Addr×Obj)) (s:Shared) (σ:St) (H:Hp) (x:V) (v:Value) (Q:VK),Inv X pins σ H s->RelV x v->r x H Q →
    wpAny (model X.prog X.w) X.A (f v) (EP X pins σ Q) X.xe s
def CallR(X:Cx)(f:Value)(r:List V->Hp->VK->Prop):Prop :=
  ∀(pins:List (Addr×Obj)) (s:Shared) (σ:St) (H:Hp) (xs:List V) (us:List Value) (Q:VK),Inv X pins σ H s->Vals xs us->r xs H Q →
    wpAny (model X.prog X.w) X.A (call f us) (EP X pins σ Q) X.xe s
def tOp(r:R2)(ta tb:TE):TE:=λσ H Q=>ta σ H λx H1=>tb σ H1 λy H2=>r x y H2 Q
def tUn(r:V->Hp->VK->Prop)(ta:TE):TE:=λσ H Q=>ta σ H λx H1=>r x H1 Q
inductive rI (C:Int->Int->Prop) (g:Int->Int->V) (x y:V) (H:Hp) (Q:VK):Prop
  | mk (i j:Int) (_:x = .int i) (_:y = .int j) (_:C i j) (_:Q (g i j) H):rI C g x y H Q
inductive rI0 (g:Int->Int->V) (x y:V) (H:Hp) (Q:VK):Prop
  | mk (i j:Int) (_:x = .int i) (_:y = .int j) (_:Q (g i j) H):rI0 g x y H Q
def rU(g:Int->V):V->Hp->VK->Prop:=λx H Q=>∃i,x = .int i/\Q (g i) H
section
variable{X:Cx}{a b c:Expr}{ta tb tc:TE}{pos:Pos}
theorem Zpg(ha:PE X a ta)(hb:PE X b tb){pins:List (Addr×Obj)}{s:Shared}{σ:St}{H:Hp}{R:V->V->Hp->Prop}(I:Inv X pins σ H s)
    (h:ta σ H λx H1=>tb σ H1 λy H2=>R x y H2) {Q:Value->Shared->Prop} {f:Value->Value->Sem Value}
    (hf:∀v u s2 x y H2,Inv X pins σ H2 s2->RelV x v->RelV y u->R x y H2->wpAny (model X.prog X.w) X.A (f v u) Q X.xe s2) :
    wpAny (model X.prog X.w) X.A (eval a X.env) (λv s₁=>wpAny (model X.prog X.w) X.A (eval b X.env) (λu s₂=>wpAny (model X.prog X.w) X.A (f v u) Q X.xe s₂) X.xe s₁) X.xe s:=by
  refine thn (ha pins s σ H _ I h) λv s1 ⟨x,H1,I1,r1,q1⟩=>?_
  refine thn (hb pins s1 σ H1 _ I1 q1) λu s2 ⟨y,H2,I2,r2,q2⟩=>?_
  exact hf v u s2 x y H2 I2 r1 r2 q2
theorem Zao{op:Operator}{r:R2}(ho:OpR X (binaryOp op) r)(ha:PE X a ta)(hb:PE X b tb):PE X (.BinOp a op b pos) (tOp r ta tb):=by
  intro pins s σ H Q I h
  exact wpAny_BinOp (Zpg ha hb I h λv u s2 x y H2 I2 rx ry q=>ho pins s2 σ H2 x y v u Q I2 rx ry q)
theorem ZgQ{op:UnaryOp}{r:V->Hp->VK->Prop}(ho:UnR X (unaryOp op) r)(ha:PE X a ta):PE X (.UnaryOp op a pos) (tUn r ta):=by
  intro pins s σ H Q I h
  exact UnaryOp_ (thn (ha pins s σ H _ I h) λv s1 ⟨x,H1,I1,r1,q1⟩=>ho pins s1 σ H1 x v Q I1 r1 q1)
theorem opI{f:Value->Value->Sem Value}{C:Int->Int->Prop}{g:Int->Int->Int}
    (rule:∀(i j:Int) (t u:Tok) (s:Shared) (Q:Value->Shared->Prop) (E:Value->Shared->Prop),C i j->Q (.int (g i j) s.toks) { s with toks:=s.toks+1 }->wpAny (model X.prog X.w) X.A (f (.int i t) (.int j u)) Q E s) :
    OpR X f (rI C λi j => .int (g i j)):=by
  intro pins s σ H x y v u Q I rx ry h
  obtain ⟨i,j,rfl,rfl,hc,q⟩:=h
  obtain ⟨t,rfl⟩:=rx
  obtain ⟨t',rfl⟩:=ry
  exact rule i j t t' s _ _ hc ⟨.int (g i j),H,I.tok _,⟨_,rfl⟩,q⟩
theorem ZpM{f:Value->Value->Sem Value}{g:Int->Int->Int}
    (rule:∀(i j:Int) (t u:Tok) (s:Shared) (Q:Value->Shared->Prop) (E:Value->Shared->Prop),Q (.int (g i j) s.toks) { s with toks:=s.toks+1 }->wpAny (model X.prog X.w) X.A (f (.int i t) (.int j u)) Q E s) :
    OpR X f (rI0 λi j => .int (g i j)):=by
  intro pins s σ H x y v u Q I rx ry h
  obtain ⟨i,j,rfl,rfl,q⟩:=h
  obtain ⟨t,rfl⟩:=rx
  obtain ⟨t',rfl⟩:=ry
  exact rule i j t t' s _ _ ⟨.int (g i j),H,I.tok _,⟨_,rfl⟩,q⟩
theorem Zo2{f:Value->Value->Sem Value}{g:Int->Int->Bool}
    (rule:∀(i j:Int) (t u:Tok) (s:Shared) (Q:Value->Shared->Prop) (E:Value->Shared->Prop),Q (.bool (g i j)) s->wpAny (model X.prog X.w) X.A (f (.int i t) (.int j u)) Q E s) :
    OpR X f (rI0 λi j => .bl (g i j)):=by
  intro pins s σ H x y v u Q I rx ry h
  obtain ⟨i,j,rfl,rfl,q⟩:=h
  obtain ⟨t,rfl⟩:=rx
  obtain ⟨t',rfl⟩:=ry
  exact rule i j t t' s _ _ ⟨.bl (g i j),H,I,rfl,q⟩
def Zp7(i j:Int):Prop:=0<j/\j<1073741824
def CMul(i j:Int):Prop:=(-(2^64)<i/\i<2^64)\/(-(2^64)<j/\j<2^64)
theorem CMul.ok{i j:Int}(h:CMul i j):IntMulOk i j:=by
  rcases h with ⟨h1,h2⟩ | ⟨h1,h2⟩
  · exact .of_left (intBits_le_64 h1 h2)
  · exact .of_right (intBits_le_64 h1 h2)
theorem Za0:OpR X (binaryOp .Add) (rI0 λi j => .int (i+j)):=ZpM λ_ _ _ _ _ _ _ q=>add_int q
theorem ZcK:OpR X (binaryOp .Sub) (rI0 λi j => .int (i-j)):=ZpM λ_ _ _ _ _ _ _ q=>sub_int q
theorem Zn7:OpR X (binaryOp .Mult) (rI CMul λi j => .int (i*j)):=opI λ_ _ _ _ _ _ _ hc q=>mul_int q hc.ok
theorem Zb6:OpR X (binaryOp .FloorDiv) (rI Zp7 λi j => .int (i/j)):=opI λi j _ _ _ _ _ hc q=>by
  have h1:(0:Int)<j:=hc.1
  have h2:j<1073741824:=hc.2
  exact floordiv_int ⋯ (by rw[Int.fdiv_eq_ediv_of_nonneg i ⋯]; exact q) (.inl (PyProof.noPylong_small ⋯))
theorem ZbX:OpR X (binaryOp .Mod) (rI (λ_ j=>0<j) λi j => .int (i%j)):=opI λi j _ _ _ _ _ hc q=>by
  have h1:(0:Int)<j:=hc
  exact mod_int' ⋯ (by rw[W5 i ⋯]; exact q)
theorem Za1:OpR X (binaryOp .Mod) (rI (λ_ j=>j≠0) λi j => .int (i.fmod j)):=opI λ_ _ _ _ _ _ _ hc q=>mod_int' hc q
theorem unI{f:Value->Sem Value}{g:Int->Int}
    (rule:∀(i:Int) (t:Tok) (s:Shared) (Q:Value->Shared->Prop) (E:Value->Shared->Prop),Q (.int (g i) s.toks) { s with toks:=s.toks+1 }->wpAny (model X.prog X.w) X.A (f (.int i t)) Q E s) :
    UnR X f (rU λi => .int (g i)):=by
  intro pins s σ H x v Q I rx h
  obtain ⟨i,rfl,q⟩:=h
  obtain ⟨t,rfl⟩:=rx
  exact rule i t s _ _ ⟨.int (g i),H,I.tok _,⟨_,rfl⟩,q⟩
theorem Zet:UnR X (unaryOp .USub) (rU λi => .int (-i)):=unI λ_ _ _ _ _ q=>neg_int q
end
def ZpN:V->V->Bool
  | .non,.non=>true | .non,.int _=>true | .int _,.non=>true | .non,.bl _=>true | .bl _,.non=>true | .non,.str _=>true | .str _,.non=>true
  | .int _,.int _=>true | .bl _,.bl _=>true | .str _,.str _=>true | .byt _,.byt _=>true
  | .int _,.str _=>true | .str _,.int _=>true | .bl _,.str _=>true | .str _,.bl _=>true
  | _,_=>false
def rEq:R2:=λx y H Q=>ZpN x y=true/\Q (.bl (decide (x=y))) H
def rNe:R2:=λx y H Q=>ZpN x y=true/\Q (.bl (!decide (x=y))) H
theorem ZfZ{i j:Int}:decide (V.int i=V.int j)=(i==j):=by
  rw[Bool.eq_iff_iff]
  simp
theorem Zmh{i j:Bool}:decide (V.bl i=V.bl j)=(i==j):=by
  rw[Bool.eq_iff_iff]
  simp
theorem ZjK{i j:Str}:decide (V.str i=V.str j)=(i==j):=by
  rw[Bool.eq_iff_iff]
  simp
theorem ZjL{i j:Array UInt8}:decide (V.byt i=V.byt j)=(i.toList==j.toList):=by
  rw[Bool.eq_iff_iff]
  cases i
  cases j
  simp
section
variable{X:Cx}{a b c:Expr}{ta tb tc:TE}{pos:Pos}
theorem ZaJ{pins:List (Addr×Obj)}{σ:St}{H:Hp}{s:Shared}{Q:VK}{k k':Bool}(I:Inv X pins σ H s)(q:Q (.bl k) H)(e:k=k'):EP X pins σ Q (.bool k') s:=by
  subst e
  exact ⟨.bl k,H,I,rfl,q⟩
theorem Za9:OpR X (compareOp .Eq) rEq:=by
  intro pins s σ H x y v u Q I rx ry h
  obtain ⟨hs,q⟩:=h
  cases x with
  | non =>
    cases rx
    cases y with
    | non=>cases ry; exact PySem.EqNone.eq_none_none (ZaJ I q (by simp))
    | bl j=>cases ry; exact PySem.EqNone.eq_none_bool (ZaJ I q (by simp))
    | int j=>obtain ⟨t',rfl⟩:=ry; exact PySem.EqNone.eq_none_int (ZaJ I q (by simp))
    | str j=>obtain ⟨t',rfl⟩:=ry; exact PySem.EqNone.eq_none_str (ZaJ I q (by simp))
    | _=>exact absurd (show false=true from hs) Qu
  | bl i =>
    cases rx
    cases y with
    | non=>cases ry; exact PySem.EqNone.eq_bool_none (ZaJ I q (by simp))
    | bl j=>cases ry; exact eq_bool (ZaJ I q Zmh)
    | str j=>obtain ⟨t',rfl⟩:=ry; exact PySem.EqMixed.eq_bool_str (ZaJ I q (by simp))
    | _=>exact absurd (show false=true from hs) Qu
  | int i =>
    obtain ⟨t,rfl⟩:=rx
    cases y with
    | non=>cases ry; exact PySem.EqNone.eq_int_none (ZaJ I q (by simp))
    | int j=>obtain ⟨t',rfl⟩:=ry; exact eq_int (ZaJ I q ZfZ)
    | str j=>obtain ⟨t',rfl⟩:=ry; exact PySem.EqMixed.eq_int_str (ZaJ I q (by simp))
    | _=>exact absurd (show false=true from hs) Qu
  | str i =>
    obtain ⟨t,rfl⟩:=rx
    cases y with
    | non=>cases ry; exact PySem.EqNone.eq_str_none (ZaJ I q (by simp))
    | bl j=>cases ry; exact PySem.EqMixed.eq_str_bool (ZaJ I q (by simp))
    | int j=>obtain ⟨t',rfl⟩:=ry; exact PySem.EqMixed.eq_str_int (ZaJ I q (by simp))
    | str j=>obtain ⟨t',rfl⟩:=ry; exact eq_str (ZaJ I q ZjK)
    | _=>exact absurd (show false=true from hs) Qu
  | byt i =>
    obtain ⟨t,rfl⟩:=rx
    cases y with
    | byt j=>obtain ⟨t',rfl⟩:=ry; exact PySem.W.eq_bytes (ZaJ I q ZjL)
    | _=>exact absurd (show false=true from hs) Qu
  | _=>cases y <;> exact absurd (show false=true from hs) Qu
theorem ZeB:OpR X (compareOp .NotEq) rNe:=by
  intro pins s σ H x y v u Q I rx ry h
  obtain ⟨hs,q⟩:=h
  cases x with
  | non =>
    cases rx
    cases y with
    | non=>cases ry; exact PySem.EqNone.ne_none_none (ZaJ I q (by simp))
    | bl j=>cases ry; exact PySem.EqNone.ne_none_bool (ZaJ I q (by simp))
    | int j=>obtain ⟨t',rfl⟩:=ry; exact PySem.EqNone.ne_none_int (ZaJ I q (by simp))
    | str j=>obtain ⟨t',rfl⟩:=ry; exact PySem.EqNone.ne_none_str (ZaJ I q (by simp))
    | _=>exact absurd (show false=true from hs) Qu
  | bl i =>
    cases rx
    cases y with
    | non=>cases ry; exact PySem.EqNone.ne_bool_none (ZaJ I q (by simp))
    | bl j=>cases ry; exact ne_bool (ZaJ I q (congrArg not Zmh))
    | str j=>obtain ⟨t',rfl⟩:=ry; exact PySem.EqMixed.ne_bool_str (ZaJ I q (by simp))
    | _=>exact absurd (show false=true from hs) Qu
  | int i =>
    obtain ⟨t,rfl⟩:=rx
    cases y with
    | non=>cases ry; exact PySem.EqNone.ne_int_none (ZaJ I q (by simp))
    | int j=>obtain ⟨t',rfl⟩:=ry; exact ne_int (ZaJ I q (congrArg not ZfZ))
    | str j=>obtain ⟨t',rfl⟩:=ry; exact PySem.EqMixed.ne_int_str (ZaJ I q (by simp))
    | _=>exact absurd (show false=true from hs) Qu
  | str i =>
    obtain ⟨t,rfl⟩:=rx
    cases y with
    | non=>cases ry; exact PySem.EqNone.ne_str_none (ZaJ I q (by simp))
    | bl j=>cases ry; exact PySem.EqMixed.ne_str_bool (ZaJ I q (by simp))
    | int j=>obtain ⟨t',rfl⟩:=ry; exact PySem.EqMixed.ne_str_int (ZaJ I q (by simp))
    | str j=>obtain ⟨t',rfl⟩:=ry; exact ne_str (ZaJ I q (congrArg not ZjK))
    | _=>exact absurd (show false=true from hs) Qu
  | byt i =>
    obtain ⟨t,rfl⟩:=rx
    cases y with
    | byt j=>obtain ⟨t',rfl⟩:=ry; exact PySem.W.ne_bytes (ZaJ I q (congrArg not ZjL))
    | _=>exact absurd (show false=true from hs) Qu
  | _=>cases y <;> exact absurd (show false=true from hs) Qu
theorem ZdW:OpR X (compareOp .Lt) (rI0 λi j => .bl (decide (i<j))):=Zo2 λ_ _ _ _ _ _ _ q=>lt_int q
theorem Zlk:OpR X (compareOp .LtE) (rI0 λi j => .bl (decide (i<=j))):=Zo2 λ_ _ _ _ _ _ _ q=>le_int q
theorem ZiY:OpR X (compareOp .Gt) (rI0 λi j => .bl (decide (j<i))):=Zo2 λ_ _ _ _ _ _ _ q=>gt_int q
theorem Zph:OpR X (compareOp .GtE) (rI0 λi j => .bl (decide (j<=i))):=Zo2 λ_ _ _ _ _ _ _ q=>ge_int q
theorem Zn8:OpR X (compareOp .Is) (λx y H Q=>y = .non/\Q (.bl (decide (x = .non))) H):=by
  intro pins s σ H x y v u Q I rx ry h
  obtain ⟨rfl,q⟩:=h
  cases ry
  refine is_none_gen (ZaJ I q ?_)
  cases x <;> first
    | (cases rx; rfl)
    | (obtain ⟨t,rfl⟩:=rx; rfl)
theorem OpR.or{f:Value->Value->Sem Value}{r r':R2}(h:OpR X f r)(h':OpR X f r'):OpR X f (λx y H Q=>r x y H Q\/r' x y H Q):=by
  intro pins s σ H x y v u Q I rx ry q
  rcases q with q | q
  · exact h pins s σ H x y v u Q I rx ry q
  · exact h' pins s σ H x y v u Q I rx ry q
theorem Zas(b:Expr){op:CmpOp}(h:op ≠ .In:=by decide)(h2:op ≠ .NotIn:=by decide):behindInMarks op b=false:=by
  have e1:(op==CmpOp.In)=false:=by cases op <;> first | rfl | exact absurd rfl h
  have e2:(op==CmpOp.NotIn)=false:=by cases op <;> first | rfl | exact absurd rfl h2
  cases b <;> simp[behindInMarks,e1,e2]
theorem Zbk{op:CmpOp}{r:R2}(ho:OpR X (compareOp op) r)(ha:PE X a ta)(hb:PE X b tb)(hm:behindInMarks op b=false):PE X (.Compare a [op] [b] pos) (tOp r ta tb):=by
  intro pins s σ H Q I h
  exact wpAny_Compare1 (Zpg ha hb I h λv u s2 x y H2 I2 rx ry q=>ho pins s2 σ H2 x y v u Q I2 rx ry q) hm
def Zpi(t:TE):TT:=λσ H Q=>t σ H λx H'=>∃k,x = .bl k/\Q k H'
theorem Zap{op:CmpOp}{r:R2}(ho:OpR X (compareOp op) r)(ha:PE X a ta)(hb:PE X b tb)(hm:behindInMarks op b=false):PT X (.Compare a [op] [b] pos) (Zpi (tOp r ta tb)):=by
  intro pins s σ H Q I h
  refine wpAny_isTrue_Compare1 (thn (ha pins s σ H _ I h) λv s1 ⟨x,H1,I1,r1,q1⟩=>thn (hb pins s1 σ H1 _ I1 q1) λu s2 ⟨y,H2,I2,r2,q2⟩ =>
    thn (ho pins s2 σ H2 x y v u _ I2 r1 r2 q2) λc s3 ⟨z,H3,I3,r3,k,e,q3⟩=>?_) hm
  subst e
  cases r3
  exact wpAny_truthy_bool ⟨H3,I3,q3⟩
def Zn9(r r':R2)(ta tb tc:TE):TE:=λσ H Q=>ta σ H λx H1=>tb σ H1 λy H2=>r x y H2 λz H3=>∃k,z = .bl k ∧
  (if k=true then tc σ H3 λw' H4=>r' y w' H4 Q else Q (.bl false) H3)
theorem Zll{op op':CmpOp}{r r':R2}(ho:OpR X (compareOp op) r)(ho':OpR X (compareOp op') r')(ha:PE X a ta)(hb:PE X b tb)(hc:PE X c tc)
    (hm:lastMarks [op,op'] [b,c]=false:=by with_unfolding_all rfl):PE X (.Compare a [op,op'] [b,c] pos) (Zn9 r r' ta tb tc):=by
  intro pins s σ H Q I h
  refine Compare_chain (thn (ha pins s σ H _ I h) λv s1 ⟨x,H1,I1,r1,q1⟩=>chain_link (thn (hb pins s1 σ H1 _ I1 q1) λu s2 ⟨y,H2,I2,r2,q2⟩ =>
    thn (ho pins s2 σ H2 x y v u _ I2 r1 r2 q2) λd s3 ⟨z,H3,I3,r3,k,e,q3⟩=>?_)) hm
  subst e
  cases r3
  refine wpAny_truthy_bool ?_
  cases k with
  | false=>exact ite_ff ⟨.bl false,H3,I3,rfl,q3⟩
  | true=>exact ite_tt (chain_last (thn (hc pins s3 σ H3 _ I3 q3) λw' s4 ⟨z',H4,I4,r4,q4⟩=>ho' pins s4 σ H4 y z' u w' Q I4 r2 r4 q4))
theorem Zip:(sizeLine:Nat)<2^63:=by rw[sizeLine_eq]; decide
theorem ZgR{x:V}{us:List Value}(r:Vals [x] us):∃u,us=[u]/\RelV x u:=by
  cases r with
  | cons r1 r2=>cases r2; exact ⟨_,rfl,r1⟩
theorem ZjM{x y:V}{us:List Value}(r:Vals [x,y] us):∃u w',us=[u,w']/\RelV x u/\RelV y w':=by
  cases r with
  | cons r1 r2 =>
    cases r2 with
    | cons r3 r4=>cases r4; exact ⟨_,_,rfl,r1,r3⟩
theorem Ziq:CallR X (.builtin "abs") (λxs H Q=>∃i,xs=[.int i]/\Q (.int (if i<0 then -i else i)) H):=by
  intro pins s σ H xs us Q I r h
  obtain ⟨i,rfl,q⟩:=h
  obtain ⟨u,rfl,t,rfl⟩:=ZgR r
  exact call_abs_int λu tk=>⟨.int (if i<0 then -i else i),H,I.tok _,⟨_,rfl⟩,q⟩
theorem ZjN(hc:X.calm=true):CallR X (.builtin "max") (λxs H Q=>∃i j,xs=[.int i,.int j]/\Q (.int (if j>i then j else i)) H):=by
  intro pins s σ H xs us Q I r h
  obtain ⟨i,j,rfl,q⟩:=h
  obtain ⟨u,w',rfl,⟨t,rfl⟩,⟨t',rfl⟩⟩:=ZjM r
  refine max_two_ints (I.ok.hd hc) λh' tk k=>⟨_,H,I.kept k,?_,q⟩
  by_cases hj:j>i
  · rw[if_pos hj,if_pos hj]; exact ⟨_,rfl⟩
  · rw[if_neg hj,if_neg hj]; exact ⟨_,rfl⟩
theorem ZgS(hc:X.calm=true):CallR X (.builtin "min") (λxs H Q=>∃i j,xs=[.int i,.int j]/\Q (.int (if j<i then j else i)) H):=by
  intro pins s σ H xs us Q I r h
  obtain ⟨i,j,rfl,q⟩:=h
  obtain ⟨u,w',rfl,⟨t,rfl⟩,⟨t',rfl⟩⟩:=ZjM r
  refine min_two_ints (I.ok.hd hc) λh' tk k=>⟨_,H,I.kept k,?_,q⟩
  by_cases hj:j<i
  · rw[if_pos hj,if_pos hj]; exact ⟨_,rfl⟩
  · rw[if_neg hj,if_neg hj]; exact ⟨_,rfl⟩
theorem ZgT:CallR X (.type "int") (λxs H Q=>(∃i,xs=[.int i]/\Q (.int i) H)\/∃k,xs=[.bl k]/\Q (.int (if k then 1 else 0)) H):=by
  intro pins s σ H xs us Q I r h
  rcases h with ⟨i,rfl,q⟩ | ⟨k,rfl,q⟩
  · obtain ⟨u,rfl,t,rfl⟩:=ZgR r
    exact call_int_int ⟨.int i,H,I,⟨_,rfl⟩,q⟩
  · obtain ⟨u,rfl,r1⟩:=ZgR r
    cases r1
    exact call_int_bool ⟨.int (if k then 1 else 0),H,I.tok _,⟨_,rfl⟩,q⟩
end
end L2
namespace L2
open PySem PySem.Spec PyProof.Rows
structure ObjM (h:Heap) (x dx C:Addr) (mA:Str->Option Value):Prop where
  obj:h.get? x=some (PySem.W.instObj C dx)
  ns:h.Ns1 dx mA
  ne:dx≠x
theorem ZjO{h:Heap}{dx:Addr}{mA:Str->Option Value}(n:h.Ns1 dx mA):∃od,h.get? dx=some od/\∀name,PySem.W.lookIn name od=some (mA name):=by
  obtain ⟨o,es,ep,ho,hd,hk,_,hm⟩:=n
  refine ⟨o,ho,λname=>?_⟩
  have e:=hm name
  unfold nsFind findBy at e
  rw[<-Array.find?_toList] at e
  unfold PySem.W.lookIn
  rw[hd]
  dsimp only
  split
  · rename_i y q
    rw[q] at e
    exact congrArg some e
  · rename_i q
    rw[q] at e
    have a:es.toList.any (·.refKey)=false:=by
      rw[List.any_eq_false]
      intro y hy
      obtain ⟨z,t,hkey⟩:=hk y (Array.mem_toList_iff.mp hy)
      simp[DictEntry.refKey,hkey]
    have a':¬es.toList.any (·.refKey)=true:=by rw[a]; exact Qu
    rw[if_neg a']
    exact congrArg some e
theorem ObjM.look{h:Heap}{x dx C:Addr}{mA:Str->Option Value}(I:ObjM h x dx C mA):∃od,PySem.W.InstAt h x (PySem.W.instObj C dx) C (some od)/\∀name,PySem.W.lookIn name od=some (mA name) :=
  let ⟨od,ho,hl⟩:=ZjO I.ns
  ⟨od,⟨I.obj,rfl,rfl,ho⟩,hl⟩
section
variable{prog:Program}{w:World}{A:Around}{E:Value->Shared->Prop}{s:Shared}{K:PySem.W.Frag}{x dx C f:Addr}{mA:Str->Option Value}{name:Str}{v:Value}
theorem ZmO{expr:Bool}{Q:Value->Shared->Prop}(X:K.In s.heap)(I:ObjM s.heap x dx C mA)(hg:PySem.W.plainGet K C name=true)(hh:PySem.W.hasDictIn K C=true)
    (ha:PySem.W.findIn K (.ref C) name=some none) (hv:mA name=some v) (hv':PySem.W.handedIn v=true) (h:Q v { s with toks:=s.toks+1 }) :
    wpAny (model prog w) A (getAttr (.ref x) name expr) Q E s:=by
  obtain ⟨od,J,hl⟩:=I.look
  exact PySem.W.get_value X J (PySem.W.plainGet_of hg).1 (PySem.W.findObj_own hh ha rfl (by rw[hl,hv])) hv' h
theorem Zlm{pl:Sem Bool}{Q:Value×List Value->Shared->Prop}(X:K.In s.heap)(I:ObjM s.heap x dx C mA)(hg:PySem.W.plainGet K C name=true)
    (hf:PySem.W.findIn K (.ref C) name=some (some (.ref f))) (ht:PySem.W.isFn K (.ref f)=true) (hv:mA name=none) (h:Q (.ref f,[.ref x]) s) :
    wpAny (model prog w) A (getMethod (.ref x) name pl) Q E s:=by
  obtain ⟨od,J,hl⟩:=I.look
  exact PySem.W.method_fn X J (PySem.W.plainGet_of hg).1 (PySem.W.plainGet_of hg).2 hf (beq_iff_eq.mp ht) (by show (PySem.W.lookIn name od).map (·.isSome)=some false; rw[hl,hv]; rfl) h
theorem ZmP{ns:List Str}{Q:Unit->Shared->Prop}(X:K.In s.heap)(I:ObjM s.heap x dx C mA)
    (hs:PySem.W.findIn K (.ref C) "__setattr__" = some (some (.builtin "object.__setattr__"))) (hp:PySem.W.plainOver K C=true) (ht:PySem.W.takerIn K C name=some none) (hh:PySem.W.hasDictIn K C=true)
    (hw:PySem.Within mA ns) (hsz:ns.length<=sizeLine)
    (h:∀h',ObjM h' x dx C (λy=>if y=name then some v else mA y)->Heap.SameBut dx s.heap h'->Q () { s with heap:=h',toks:=s.toks+2 }) :
    wpAny (model prog w) A (setAttr (.ref x) name v) Q E s:=by
  obtain ⟨od,J,hl⟩:=I.look
  refine PySem.W.set_plain X J hs (PySem.W.osa_open (s:={ s with toks:=s.toks+1 }) (r:=none) X J hp ht λb=>?_)
  obtain ⟨cd,hc,hd'⟩:=PySem.W.any_some hh
  have hx:s.heap.get? x=some ⟨.ref C,some dx,.plain,#[]⟩:=I.obj
  refine wpAny_bind (wpAny_pure (wpAny_bind (wpAny_bind (wpAny_loadPart hx (wpAny_bind (PySem.W.Looks.here (s:={ s with toks:=s.toks+1 }) (PySem.W.looks_clsIn X hc) ?_))))))
  rw[hd']
  refine wpAny_pure (a:=some dx) (wpAny_bind (wpAny_pure (wpAny_bind ?_)))
  refine wpAny_nsSet1 (s:={ s with toks:=s.toks+1 }) I.ns λh' hn2 hs2=>?_
  obtain ⟨oD,esD,epD,hoD,hdD,hcD⟩:=hn2.count (PySem.Within.cons name v hw)
  refine wpAny_bind (wpAny_lookBehind hoD (by rw[hdD]; exact pastItsLine_dict (Q0 hcD (by rw[Uq]; omega))) ?_)
  exact wpAny_pure (h _ ⟨(hs2.2 _ (Ne.symm I.ne)).trans I.obj,hn2,I.ne⟩ hs2)
theorem Zln{R:Result->Shared->Prop}{vs:List Value}{kw:List (Str×Value)}(X:K.In s.heap)(hm:PySem.W.makesIn K C=true)
    (hi:PySem.W.findIn K (.ref C) "__init__" = some (some (.ref f))) (hf:PySem.W.typeIn K (.ref f)=some (.type "function"))
    (h:codeAny (model prog w) (A.under (.builtin "type.__call__" ⟨.ref C::vs,kw⟩)) (.call (.ref f) ⟨.ref (s.heap.objs.size+1)::vs,kw⟩) (PySem.W.InitBack (s.heap.objs.size+1) R)
      { s with heap:=(s.heap.push PySem.W.emptyDict).push (PySem.W.instObj C s.heap.objs.size) }) :
    codeAny (model prog w) A (.call (.ref C) ⟨vs,kw⟩) R s:=by
  obtain ⟨hh,g,d,t,os⟩:=s
  exact PySem.W.make_core (PySem.W.makes_of X hm) (PySem.W.looks_findIn X hi) (λself=>PySem.W.bind_fn X self hf) (.inl rfl) h
theorem ZjP{R:Result->Shared->Prop}(X:K.In s.heap)(hm:PySem.W.makesIn K C=true)
    (hi:PySem.W.findIn K (.ref C) "__init__" = some (some (.builtin "object.__init__")))
    (hb:∀self,PySem.W.Looks (model prog w) s.heap (bindSpecial (.builtin "object.__init__") self) (.builtin "object.__init__", [self]))
    (h:codeAny (model prog w) (A.under (.builtin "type.__call__" ⟨[.ref C],[]⟩)) (.call (.builtin "object.__init__") ⟨[.ref (s.heap.objs.size+1)],[]⟩) (PySem.W.InitBack (s.heap.objs.size+1) R)
      { s with heap:=(s.heap.push PySem.W.emptyDict).push (PySem.W.instObj C s.heap.objs.size) }) :
    codeAny (model prog w) A (.call (.ref C) ⟨[],[]⟩) R s:=by
  obtain ⟨hh,g,d,t,os⟩:=s
  exact PySem.W.make_core (PySem.W.makes_of X hm) (PySem.W.looks_findIn X hi) hb (.inr ⟨rfl,rfl⟩) h
end
def ZgU(f:Str)(v:V):List (Str×V)->List (Str×V)
  | []=>[(f,v)]
  | (g,x)::r=>if g=f then (g,v)::r else (g,x)::ZgU f v r
theorem Zcl(f g:Str)(v:V):∀fs:List (Str×V),(ZgU f v fs).lookup g=if g=f then some v else fs.lookup g
  | []=>by
    show List.lookup g [(f,v)]=_
    by_cases h:g=f
    · have hb:(g==f)=true:=beq_iff_eq.mpr h
      simp only[List.lookup,hb,if_pos h]
    · have hb:(g==f)=false:=beq_eq_false_iff_ne.mpr h
      simp only[List.lookup,hb,if_neg h]
  | (k,x)::r=>by
    have ih:=Zcl f g v r
    rw[show ZgU f v ((k,x)::r)=(if k=f then (k,v)::r else (k,x)::ZgU f v r) from rfl]
    by_cases hk:k=f
    · rw[if_pos hk]
      by_cases h:g=k
      · have hb:(g==k)=true:=beq_iff_eq.mpr h
        simp only[List.lookup,hb,if_pos (h.trans hk)]
      · have hb:(g==k)=false:=beq_eq_false_iff_ne.mpr h
        simp only[List.lookup,hb,if_neg (λe:g=f=>h (e.trans hk.symm))]
    · rw[if_neg hk]
      by_cases h:g=k
      · have hb:(g==k)=true:=beq_iff_eq.mpr h
        simp only[List.lookup,hb,if_neg (λe:g=f=>hk (h.symm.trans e))]
      · have hb:(g==k)=false:=beq_eq_false_iff_ne.mpr h
        simp only[List.lookup,hb]
        exact ih
theorem ZeP(f:Str)(v:V):∀fs:List (Str×V),f∈(ZgU f v fs).map (·.1)/\∀g,g∈fs.map (·.1)->g∈(ZgU f v fs).map (·.1)
  | []=>⟨by simp[ZgU],λg h=>by simp at h⟩
  | (k,x)::r=>by
    obtain ⟨i1,i2⟩:=ZeP f v r
    rw[show ZgU f v ((k,x)::r)=(if k=f then (k,v)::r else (k,x)::ZgU f v r) from rfl]
    by_cases hk:k=f
    · rw[if_pos hk]
      subst hk
      exact ⟨by simp,λg h=>by simpa using h⟩
    · rw[if_neg hk]
      refine ⟨?_,λg h=>?_⟩
      · rw[Uj]
        exact Wh _ i1
      · rw[Uj] at h ⊢
        rcases Q9.mp h with e | e
        · exact Q9.mpr (.inl e)
        · exact Wh _ (i2 g e)
theorem ZeQ(f:Str)(v:V):∀fs:List (Str×V),(ZgU f v fs).length<=fs.length+1
  | []=>by simp[ZgU]
  | (k,x)::r=>by
    have ih:=ZeQ f v r
    rw[show ZgU f v ((k,x)::r)=(if k=f then (k,v)::r else (k,x)::ZgU f v r) from rfl]
    by_cases hk:k=f
    · rw[if_pos hk,Uq,Uq]; omega
    · rw[if_neg hk,Uq,Uq]; omega
theorem RelO.some_of{v:V}{o:Option Value}(r:RelO (some v) o):∃u,o=some u/\RelV v u:=by
  cases o with
  | none=>exact (show False from r).elim
  | some u=>exact ⟨u,rfl,r⟩
theorem RelO.none_of{o:Option Value}(r:RelO none o):o=none:=by
  cases o with
  | none=>rfl
  | some u=>exact (show False from r).elim
theorem ZjQ{v:V}{u:Value}(r:RelV v u):PySem.W.handedIn u=true:=by
  cases v with
  | non=>cases (show u=Value.none from r); rfl
  | bl b=>cases (show u=Value.bool b from r); rfl
  | int i=>obtain ⟨t,e⟩:=(show ∃t,u=Value.int i t from r); cases e; rfl
  | str x=>obtain ⟨t,e⟩:=(show ∃t,u=Value.str x t from r); cases e; rfl
  | byt b=>obtain ⟨t,e⟩:=(show ∃t,u=Value.bytes b t from r); cases e; rfl
  | flt b=>obtain ⟨t,e⟩:=(show ∃t,u=Value.float b t from r); cases e; rfl
  | ref a=>cases (show u=Value.ref a from r); rfl
  | ty n=>cases (show u=Value.type n from r); rfl
section
variable{P:Program}{w:World}{H H':Hp}{h h':Heap}{a C dx:Addr}{fs fs':List (Str×V)}
theorem ZeR(hok:HOk P w H h)(e:H a=some (.ins C dx fs)):∃mA,ObjM h a dx C mA/\(∀f,RelO (fs.lookup f) (mA f))/\PySem.Within mA (fs.map (·.1))/\fs.length<=1000/\H dx=some (.own a):=by
  obtain ⟨d,z,ne,ob,mA,n,r,q⟩:=(show ObjOk P w H h a (.ins C dx fs) from hok a _ e)
  exact ⟨mA,⟨ob,n,ne⟩,r,q,z,d⟩
end
structure Cls (K:PySem.W.Frag) (C:Addr):Prop where
  pg:PySem.W.plainGet K C Str.empty=true
  hd:PySem.W.hasDictIn K C=true
  po:PySem.W.plainOver K C=true
  sa:PySem.W.findIn K (.ref C) "__setattr__" = some (some (.builtin "object.__setattr__"))
theorem Cls.get{K:PySem.W.Frag}{C:Addr}(c:Cls K C)(f:Str):PySem.W.plainGet K C f=true:=c.pg
def NoAttr(K:PySem.W.Frag)(C:Addr)(f:Str):Prop:=PySem.W.findIn K (.ref C) f=some none
theorem NoAttr.taker{K:PySem.W.Frag}{C:Addr}{f:Str}(n:NoAttr K C f):PySem.W.takerIn K C f=some none:=by
  unfold PySem.W.takerIn
  rw[show PySem.W.findIn K (.ref C) f=some none from n]
  rfl
structure Con (K:PySem.W.Frag) (C:Addr) (f:Str) (v:V) (u:Value):Prop where
  at_:PySem.W.findIn K (.ref C) f=some (some u)
  rel:RelV v u
  get:PySem.W.specialIn K u "__get__" = some none
  cp:PySem.W.copiedNames.contains f=false
structure Meth (K:PySem.W.Frag) (C:Addr) (m:Str) (f:Addr):Prop where
  at_:PySem.W.findIn K (.ref C) m=some (some (.ref f))
  fn:PySem.W.isFn K (.ref f)=true
  kp:PySem.W.keepIn K (.ref f)=true
section
variable{X:Cx}{pins:List (Addr×Obj)}{σ:St}{H:Hp}{s:Shared}{a C dx:Addr}{fs:List (Str×V)}{f:Str}{v:V}{A:Around}{E:Value->Shared->Prop}
theorem ZiZ{b:Bool}{Q:Value->Shared->Prop}(I:Inv X pins σ H s)(e:H a=some (.ins C dx fs))(c:Cls X.K C)(n:NoAttr X.K C f)(l:fs.lookup f=some v)
    (h:∀u s',Inv X pins σ H s'->RelV v u->Q u s'):wpAny (model X.prog X.w) A (getAttr (.ref a) f b) Q E s:=by
  obtain ⟨mA,O,r,_,_,_⟩:=ZeR I.hok e
  obtain ⟨u,hu,ru⟩:=RelO.some_of (v:=v) (o:=mA f) (by rw[<-l]; exact r f)
  exact ZmO I.kIn O (c.get f) c.hd n hu (ZjQ ru) (h u _ (I.tok _) ru)
theorem ZfP{m:Str}{g:Addr}{pl:Sem Bool}{Q:Value×List Value->Shared->Prop}(I:Inv X pins σ H s)(e:H a=some (.ins C dx fs))(c:Cls X.K C)(k:Meth X.K C m g)(l:fs.lookup m=none)
    (h:Q (.ref g,[.ref a]) s):wpAny (model X.prog X.w) A (getMethod (.ref a) m pl) Q E s:=by
  obtain ⟨mA,O,r,_,_,_⟩:=ZeR I.hok e
  have hn:mA m=none:=RelO.none_of (by rw[<-l]; exact r m)
  exact Zlm I.kIn O (c.get m) k.at_ k.fn hn h
theorem Zi0{y:V}{u:Value}{Q:Unit->Shared->Prop}(I:Inv X pins σ H s)(e:H a=some (.ins C dx fs))(c:Cls X.K C)(n:NoAttr X.K C f)(hl:fs.length<1000)(ry:RelV y u)
    (h:∀s',Inv X pins σ (upd H a (.ins C dx (ZgU f y fs))) s'->Q () s'):wpAny (model X.prog X.w) A (setAttr (.ref a) f u) Q E s:=by
  obtain ⟨mA,O,r,wi,_,ho⟩:=ZeR I.hok e
  have hz:(fs.map (·.1)).length<=sizeLine:=by rw[Q1,sizeLine_eq]; omega
  refine ZmP I.kIn O c.sa c.po n.taker c.hd wi hz λh' O' sb=>h _ ?_
  have hd:∃o,h'.get? dx=some o:=let ⟨o,_,_,e',_⟩:=O'.ns; ⟨o,e'⟩
  refine I.write (x:=a) (e:=dx) (by rw[e]; exact True.intro) (.inr ho) (λb q hb z=>(sb.2 b hb).trans z) hd ?_
  refine ⟨by rw[Zav O.ne]; exact ho,?_,O.ne,O'.obj,_,O'.ns,λg=>?_,λg hg=>?_⟩
  · have:=ZeQ f y fs; omega
  · show RelO ((ZgU f y fs).lookup g) (if g=f then some u else mA g)
    rw[Zcl]
    by_cases q:g=f
    · rw[if_pos q,if_pos q]; exact ry
    · rw[if_neg q,if_neg q]; exact r g
  · by_cases q:g=f
    · rw[q]; exact (ZeP f y fs).1
    · refine (ZeP f y fs).2 g (wi g λz=>hg ?_)
      show (if g=f then some u else mA g)=none
      rw[if_neg q]; exact z
theorem Inv.made(I:Inv X pins σ H s):Inv X pins σ (upd (upd H s.heap.objs.size (.own (s.heap.objs.size+1))) (s.heap.objs.size+1) (.ins C s.heap.objs.size []))
    { s with heap:=(s.heap.push PySem.W.emptyDict).push (PySem.W.instObj C s.heap.objs.size) }:=by
  have e1:(s.heap.push PySem.W.emptyDict).get? s.heap.objs.size=some PySem.W.emptyDict:=Heap.get?_push_size s.heap rfl
  have e2:((s.heap.push PySem.W.emptyDict).push (PySem.W.instObj C s.heap.objs.size)).get? (s.heap.objs.size+1)=some (PySem.W.instObj C s.heap.objs.size):=by
    have:=Heap.get?_push_size (s.heap.push PySem.W.emptyDict) (o:=PySem.W.instObj C s.heap.objs.size) rfl
    rwa [Heap.size_push] at this
  have e3:(s.heap.push PySem.W.emptyDict).Ns s.heap.objs.size (λ_=>none):=⟨PySem.W.emptyDict,#[],_,e1,rfl,(λe he=>absurd he (by simp)),λ_=>rfl⟩
  have I1:=I.laid (a:=s.heap.objs.size) (o:=.own (s.heap.objs.size+1)) (h':=s.heap.push PySem.W.emptyDict) (t':=s.toks) (λb u q=>Heap.get?_push_of_some _ q) (Q4 _) ⟨_,e1⟩
  refine I1.laid (a:=s.heap.objs.size+1) (o:=.ins C s.heap.objs.size []) (t':=s.toks) (λb u q=>Heap.get?_push_of_some _ q) (Nat.le_of_eq (Heap.size_push _ _)) ?_
  have ne:s.heap.objs.size≠s.heap.objs.size+1:=Qg (Ur _)
  refine ⟨by rw[Zav ne,Zaf],Qh _,ne,e2,λ_=>none,(Heap.Ns1.of_empty e3).at λo q=>Heap.get?_push_of_some _ q,λ_=>True.intro,λy hy=>absurd rfl hy⟩
theorem ZmQ{prog:Program}{w:World}{env:Env}{e:Expr}{f:Str}{pos:Pos}{s:Shared}{Q:Value->Shared->Prop}(hb:attributeBase e f env (eval e env)=eval e env)
    (h:wpAny (model prog w) A (eval e env) (λo s₁=>wpAny (model prog w) A (getAttr o f true) Q E s₁) E s):wpAny (model prog w) A (eval (.Attribute e f pos) env) Q E s :=
  Attribute_any_ h (by rw[arm_eval_Attribute,hb])
end
def Zp8(K:PySem.W.Frag)(ta:TE)(f:Str):TE:=λσ H Q=>ta σ H λx H1=>∃a C dx fs v,x = .ref a/\H1 a=some (.ins C dx fs)/\Cls K C/\NoAttr K C f/\fs.lookup f=some v/\Q v H1
def Zp9(K:PySem.W.Frag)(ta tv:TE)(f:Str):TS:=λD σ H=>tv σ H λy H1=>ta σ H1 λx H2=>∃a C dx fs,x = .ref a/\H2 a=some (.ins C dx fs)/\Cls K C/\NoAttr K C f/\fs.length<1000 ∧
  D.nx σ (upd H2 a (.ins C dx (ZgU f y fs)))
section
variable{X:Cx}{o e value:Expr}{f:Str}{pos pos' tpos:Pos}{ta tv:TE}
theorem ZeS(he:PE X e ta)(hb:attributeBase e f X.env (eval e X.env)=eval e X.env):PE X (.Attribute e f pos) (Zp8 X.K ta f):=by
  intro pins s σ H Q I h
  refine ZmQ hb (thn (he pins s σ H _ I h) λu s1 ⟨x,H1,I1,rx,a,C,dx,fs,v,ex,ea,c,n,l,q⟩=>?_)
  subst ex
  obtain rfl:u=Value.ref a:=rx
  exact ZiZ I1 ea c n l λu' s2 I2 ru=>⟨v,H1,I2,ru,q⟩
theorem Zoa(ha:PE X o ta)(hv:PE X value tv)(hs:swapsWith value (some (.Attribute o f pos')) pos.line X.env=pure false):PS X (.Assign [.Attribute o f pos'] value pos) (Zp9 X.K ta tv f):=by
  intro pins s σ H D I h
  refine plainObj_wpAny_Assign_Attribute (thn (hv pins s σ H _ I h) λu s1 ⟨y,H1,I1,ry,q⟩=>thn (ha pins s1 σ H1 _ I1 q) λov s2 ⟨x,H2,I2,rx,a,C,dx,fs,ex,ea,c,n,l,q2⟩=>?_) hs
  subst ex
  obtain rfl:ov=Value.ref a:=rx
  exact Zi0 I2 ea c n l ry λs3 I3=>⟨σ,_,I3,q2⟩
end
section
variable{X:Cx}{pins:List (Addr×Obj)}{σ:St}{H:Hp}{s:Shared}{A:Around}{E:Value->Shared->Prop}{Q:Value->Shared->Prop}{c:Value}{b:Bool}
inductive Zir (K:PySem.W.Frag) (H:Hp):V->Value->Prop where
  | non:Zir K H .non (.type "NoneType")
  | bl (x:Bool):Zir K H (.bl x) (.type "bool")
  | int (i:Int):Zir K H (.int i) (.type "int")
  | str (x:Str):Zir K H (.str x) (.type "str")
  | flt (x:UInt64):Zir K H (.flt x) (.type "float")
  | lst {a:Addr} {xs:List V} (e:H a=some (.lst xs)):Zir K H (.ref a) (.type "list")
  | frz {a:Addr} {o:Obj} {xs:List V} (e:H a=some (.frz o (.lst xs))):Zir K H (.ref a) (.type "list")
  | tup {a:Addr} {xs:List V} (e:H a=some (.tup xs)):Zir K H (.ref a) (.type "tuple")
  | dK {a:Addr} {kvs:List (Key×V)} (e:H a=some (.dK kvs)):Zir K H (.ref a) (.type "dict")
  | dT {a:Addr} {kvs:List (List Key×V)} (e:H a=some (.dT kvs)):Zir K H (.ref a) (.type "dict")
  | ins {a C dx:Addr} {fs:List (Str×V)} (e:H a=some (.ins C dx fs)) (cl:Cls K C) (ha:PySem.W.findIn K (.ref C) "__class__" = some (some (.builtin "object.__class__")))
      (hn:PySem.W.specialIn K (.builtin "object.__class__") "__get__" = some (some (.builtin "getset_descriptor.__get__"))) (htk:PySem.W.takesIn K (.builtin "object.__class__")=some true)
      (hm:PySem.W.mroIn K C (.type "object")=some true):Zir K H (.ref a) (.ref C)
theorem ZjR{x:V}{u t:Value}(I:Inv X pins σ H s)(rx:RelV x u)(ty:Zir X.K H x t)(e:PySem.W.kitOne X.K t c=some b)(h:∀tk,Q (.bool b) { s with toks:=tk }) :
    wpAny (model X.prog X.w) A (call (.builtin "isinstance") [u,c]) Q E s:=by
  cases ty with
  | non=>cases (show u=Value.none from rx); exact PySem.W.kia_one PySem.W.kitx_none I.kIn True.intro e (λz=>nomatch z) h
  | bl y=>cases (show u=Value.bool y from rx); exact PySem.W.kia_one PySem.W.kitx_bool I.kIn True.intro e (λz=>nomatch z) h
  | int i=>obtain ⟨t,q⟩:=(show ∃t,u=Value.int i t from rx); cases q; exact PySem.W.kia_one PySem.W.kitx_int I.kIn True.intro e (λz=>nomatch z) h
  | str y=>obtain ⟨t,q⟩:=(show ∃t,u=Value.str y t from rx); cases q; exact PySem.W.kia_one PySem.W.kitx_str I.kIn True.intro e (λz=>nomatch z) h
  | flt y=>obtain ⟨t,q⟩:=(show ∃t,u=Value.float y t from rx); cases q; exact PySem.W.kia_one PySem.W.kitx_float I.kIn True.intro e (λz=>nomatch z) h
  | @lst a xs ea =>
    cases (show u=Value.ref a from rx)
    obtain ⟨_,_,n,_,h1⟩:=(show ObjOk X.prog X.w H s.heap a (.lst xs) from I.hok a _ ea)
    exact PySem.W.kia_one PySem.W.kitx_list I.kIn ⟨_,h1,rfl⟩ e (λz=>nomatch z) h
  | @frz a ob xs ea =>
    cases (show u=Value.ref a from rx)
    obtain ⟨_,_,_,n,_,h1⟩:=(show ObjOk X.prog X.w H s.heap a (.frz ob (.lst xs)) from I.hok a _ ea)
    exact PySem.W.kia_one PySem.W.kitx_list I.kIn ⟨_,h1,rfl⟩ e (λz=>nomatch z) h
  | @tup a xs ea =>
    cases (show u=Value.ref a from rx)
    obtain ⟨_,_,_,p⟩:=(show ObjOk X.prog X.w H s.heap a (.tup xs) from I.hok a _ ea)
    obtain ⟨o,h1,h2,_⟩:=p
    exact PySem.W.kia_one PySem.W.kitx_tuple I.kIn ⟨o,h1,h2⟩ e (λz=>nomatch z) h
  | @dK a kvs ea =>
    cases (show u=Value.ref a from rx)
    obtain ⟨_,_,vs,_,p⟩:=(show ObjOk X.prog X.w H s.heap a (.dK kvs) from I.hok a _ ea)
    obtain ⟨o,es,ep,h1,h2,_⟩:=p
    exact PySem.W.kia_one PySem.W.kitx_dict I.kIn ⟨o,h1,h2.1⟩ e (λz=>nomatch z) h
  | @dT a kvs ea =>
    cases (show u=Value.ref a from rx)
    obtain ⟨_,_,xs,_,o,es,ep,h1,h2,_⟩:=(show ObjOk X.prog X.w H s.heap a (.dT kvs) from I.hok a _ ea)
    exact PySem.W.kia_one PySem.W.kitx_dict I.kIn ⟨o,h1,h2.1⟩ e (λz=>nomatch z) h
  | @ins a C dx fs ea cl ha hn htk hm =>
    cases (show u=Value.ref a from rx)
    obtain ⟨mA,O,_⟩:=ZeR I.hok ea
    obtain ⟨od,J,_⟩:=O.look
    exact PySem.W.kia_one (PySem.W.kitx_own (cl.get _) cl.hd ha hn htk hm) I.kIn J e (λz=>nomatch z) h
end
end L2
namespace L2
open PySem PySem.Spec PyProof.Rows
structure Room (k:Nat) (A:Around):Prop where
  hd:A.handled=none
  dp:A.depth+3*k+5<recursionLimit
  un:A.units+16*k+200<cLine
theorem Room.mono{j k:Nat}{A:Around}(r:Room k A)(h:j<=k):Room j A:=⟨r.hd,by have:=r.dp; omega,by have:=r.un; omega⟩
theorem Room.deeper{k:Nat}{A:Around}(r:Room (k+1) A)(env:Env):Room k (A.deeper env) :=
  ⟨r.hd,by have:=r.dp; show A.depth+1+3*k+5<_; omega,by have:=r.un; show A.units+3+16*k+200<_; omega⟩
theorem Room.in1{k:Nat}{A:Around}(r:Room (k+1) A):Room k A.in1 :=
  ⟨r.hd,by have:=r.dp; show A.depth+3*k+5<_; omega,by have:=r.un; show A.units+1+16*k+200<_; omega⟩
theorem Zi1{A:Around}{C:Addr}{us:List Value}{kw:List (Str×Value)}:(A.under (.builtin "type.__call__" ⟨.ref C::us,kw⟩)).depth=A.depth+1:=by
  first | rfl | simp[Around.under,Code.weight,Code.isCreation,Code.isGuard,Code.isCaller,Code.frames,Code.isFrame,guardIds]
theorem Zi2{A:Around}{C:Addr}{us:List Value}{kw:List (Str×Value)}:(A.under (.builtin "type.__call__" ⟨.ref C::us,kw⟩)).units=A.units+1:=by
  first | rfl | simp[Around.under,Code.cUnits,Code.frames,Code.isFrame]
theorem Room.make{k:Nat}{A:Around}(r:Room (k+1) A)(C:Addr)(us:List Value)(kw:List (Str×Value)):Room k (A.under (.builtin "type.__call__" ⟨.ref C::us,kw⟩)) :=
  ⟨r.hd,by have:=r.dp; rw[Zi1]; omega,by have:=r.un; rw[Zi2]; omega⟩
theorem Room.depth{k:Nat}{A:Around}(r:Room k A):A.depth<recursionLimit:=by have:=r.dp; omega
theorem Room.units{k:Nat}{A:Around}(r:Room k A):A.units+64<cLine:=by have:=r.un; omega
def Zqa:TA:=λ_ H Q=>Q [] H
def Zpj(ta:TE)(tr:TA):TA:=λσ H Q=>ta σ H λx H1=>tr σ H1 λxs H2=>Q (x::xs) H2
section
variable{X:Cx}{e:Expr}{es:List Expr}{te:TE}{t:TA}{pos:Pos}
theorem Zac:PA X [] Zqa:=λ_ _ _ _ H Q I h=>Calls.spliced_nil ⟨[],H,I,.nil,h⟩
theorem Zaa(ha:PE X e te)(hr:PA X es t)(hs:starEach (e::es) X.env=(false,eval e X.env)::starEach es X.env:=by rfl):PA X (e::es) (Zpj te t):=by
  intro pos pins s σ H Q I h
  rw[hs]
  show wpAny _ _ (spliced ((false,eval e X.env)::backTo pos (starEach es X.env))) _ _ s
  refine Calls.spliced_cons (thn (ha pins s σ H _ I h) λu s1 ⟨x,H1,I1,r1,q1⟩=>?_)
  exact thn (hr pos pins s1 σ H1 _ I1 q1) λus s2 ⟨xs,H2,I2,r2,q2⟩=>⟨x::xs,H2,I2,.cons r1 r2,q2⟩
def Zqb(t:TA):TE:=λσ H Q=>t σ H λxs H1=>xs.length<=sizeLine/\∀p,H1 p=none->Q (.ref p) (upd H1 p (.tup xs))
def Zqc(t:TA):TE:=λσ H Q=>t σ H λxs H1=>xs.length<=sizeLine/\∀p,H1 p=none->Q (.ref p) (upd H1 p (.lst xs))
theorem Za2{x1}(h:PA X es t):PE X (.Tuple es x1 pos) (Zqb t):=by
  intro pins s σ H Q I hq
  refine wpAny_Tuple_spliced (thn (h pos pins s σ H _ I hq) λus s1 ⟨xs,H1,I1,r,z,q⟩=>⟨by rw[<-r.length]; exact z,?_⟩)
  have hf:H1 s1.heap.objs.size=none:=I1.hok.fresh (Q4 _)
  refine ⟨.ref s1.heap.objs.size,upd H1 s1.heap.objs.size (.tup xs),I1.laid (t':=s1.toks) (λb u e=>Heap.get?_push_of_some _ e) (Q4 _) ?_,rfl,q _ hf⟩
  exact ⟨z,us,r,⟨_,Heap.get?_push_size _ rfl,rfl,_,rfl⟩⟩
theorem ZaQ(h:PA X es t):PE X (.List es pos) (Zqc t):=by
  intro pins s σ H Q I hq
  refine wpAny_List_spliced (thn (h pos pins s σ H _ I hq) λus s1 ⟨xs,H1,I1,r,z,q⟩=>⟨by rw[<-r.length]; exact z,?_⟩)
  have hf:H1 s1.heap.objs.size=none:=I1.hok.fresh (Q4 _)
  refine ⟨.ref s1.heap.objs.size,upd H1 s1.heap.objs.size (.lst xs),I1.laid (t':=s1.toks) (λb u e=>Heap.get?_push_of_some _ e) (Q4 _) ?_,rfl,q _ hf⟩
  exact ⟨z,us,0,r,Heap.get?_push_size _ rfl⟩
end
abbrev Sp:=List V->Hp->VK->XK->Prop
abbrev CXT:=List Env->Hp->Shared->XK->Value->Shared->Prop
structure Env0 (P:Program) (w:World) (K:PySem.W.Frag) (mg:Str->Option Value) (base:Heap) (A:Around) (outer:List Env) (s:Shared) (H:Hp):Prop where
  frames:A.frames=some outer
  mod:Mod K mg base
  bs:∀b o,base.get? b=some o->s.heap.get? b=some o/\H b=none
  bsz:base.objs.size<=s.heap.objs.size
  funs:s.heap.FunFrames base outer
  frf:∀b∈frs outer,H b=none
  hok:HOk P w H s.heap
  bare:AllBare s.gens
def CE(outer:List Env)(P:Program)(w:World)(H:Hp)(s:Shared)(Q:VK)(u:Value)(s':Shared):Prop :=
  ∃v H',s'.os=s.os/\AllBare s'.gens/\Un (frs outer) [] H H' s.heap s'.heap/\HOk P w H' s'.heap/\RelV v u/\Q v H'
def CR(CX:CXT)(outer:List Env)(P:Program)(w:World)(H:Hp)(s:Shared)(Q:VK)(E:XK)(r:Result)(s':Shared):Prop :=
  match r with
  | .ok (.ret u)=>CE outer P w H s Q u s'
  | .ok _=>False
  | .error e=>CX outer H s E e s'
structure FnOk (P:Program) (w:World) (K:PySem.W.Frag) (mg:Str->Option Value) (base:Heap) (CX:CXT) (k:Nat) (f:Addr) (fd:FuncData) (ps:List Str) (sp:Sp):Prop where
  len:∀vs H Q E,sp vs H Q E->vs.length=ps.length
  run:∀(A:Around) (outer:List Env) (s:Shared) (H:Hp) (args:Args) (us:List Value) (vs:List V) (Q:VK) (E:XK),Room k A->Env0 P w K mg base A outer s H->BindsTo s fd args (ps.zip us)->Vals vs us->sp vs H Q E →
    codeAny (model P w) A (.call (.ref f) args) (CR CX outer P w H s Q E) s
theorem FnOk.mono{P:Program}{w:World}{K:PySem.W.Frag}{mg:Str->Option Value}{base:Heap}{CX:CXT}{j k:Nat}{f:Addr}{fd:FuncData}{ps:List Str}{sp:Sp}(F:FnOk P w K mg base CX j f fd ps sp)(h:j<=k) :
    FnOk P w K mg base CX k f fd ps sp:=⟨F.len,λA outer s H args us vs Q E hr=>F.run A outer s H args us vs Q E (hr.mono h)⟩
theorem Env0.make{P:Program}{w:World}{K:PySem.W.Frag}{mg:Str->Option Value}{base:Heap}{A:Around}{outer:List Env}{s:Shared}{H:Hp}(e:Env0 P w K mg base A outer s H)(C:Addr)(us:List Value)(kw:List (Str×Value)) :
    Env0 P w K mg base (A.under (.builtin "type.__call__" ⟨.ref C::us,kw⟩)) outer s H:=⟨by first | exact e.frames | (simpa [Around.under,Code.envs,Code.isFrame,pushEnvs] using e.frames),e.mod,e.bs,e.bsz,e.funs,e.frf,e.hok,e.bare⟩
theorem Env0.in1{P:Program}{w:World}{K:PySem.W.Frag}{mg:Str->Option Value}{base:Heap}{A:Around}{outer:List Env}{s:Shared}{H:Hp}(e:Env0 P w K mg base A outer s H) :
    Env0 P w K mg base A.in1 outer s H:=⟨e.frames,e.mod,e.bs,e.bsz,e.funs,e.frf,e.hok,e.bare⟩
section
variable{X:Cx}{pins:List (Addr×Obj)}{σ:St}{H:Hp}{s s':Shared}
theorem Inv.env0(I:Inv X pins σ H s):Env0 X.prog X.w X.K X.mg X.base X.A X.stack s H :=
  ⟨I.ok.frames,I.ok.mod,I.bs,Q0 I.ok.bsz I.sz,I.stack,I.stkFree,I.hok,I.bare⟩
theorem Inv.after{Q:VK}{u:Value}(I:Inv X pins σ H s)(h:CE X.stack X.prog X.w H s Q u s'):EP X pins σ Q u s':=by
  obtain ⟨v,H',os,bare,un,hok,r,q⟩:=h
  obtain ⟨hh,g,d,t,os'⟩:=s'
  obtain rfl:os'=s.os:=os
  exact ⟨v,H',I.call (h':=hh) (g':=g) (d':=d) (t':=t) (ch:=[]) un hok bare (λb z=>absurd z (by simp)),r,q⟩
end
def Zob(sp:Sp)(dvs:List V)(E:XK)(t:TA):TE:=λσ H Q=>t σ H λvs H1=>sp (vs++dvs) H1 Q E
def Zoc(C:Addr)(sp:Sp)(dvs:List V)(E:XK)(t:TA):TE:=λσ H Q=>t σ H λvs H1=>∀x dx,H1 x=none->H1 dx=none->dx≠x →
  sp (.ref x::(vs++dvs)) (upd (upd H1 dx (.own x)) x (.ins C dx [])) (λv H2=>v = .non/\Q (.ref x) H2) E
def Binds(K:PySem.W.Frag)(fd:FuncData)(ps:List Str)(ds:List Value):Prop :=
  ∀(s:Shared) (us:List Value),K.In s.heap->(us++ds).length=ps.length->BindsTo s fd ⟨us,[]⟩ (ps.zip (us++ds))
theorem Binds.all{K:PySem.W.Frag}{fd:FuncData}{ps:List Str}(h:∀us:List Value,us.length=ps.length->bindArgs fd ⟨us,[]⟩=pure (ps.zip us)):Binds K fd ps []:=λs us _ hl=>by
  rw[Us] at hl ⊢
  exact .of_eq (h us hl)
def ZgV(CX:CXT)(X:Cx)(E:XK):Prop:=∀(pins:List (Addr×Obj)) (σ:St) (H:Hp) (s:Shared) (e:Value) (s':Shared),Inv X pins σ H s->CX X.stack H s E e s'->X.xe e s'
section
variable{X:Cx}{CX:CXT}{k:Nat}{f C:Addr}{fd:FuncData}{ps:List Str}{sp:Sp}{dvs:List V}{ds:List Value}{E:XK}{x m:Str}{p pos apos:Pos}{e o:Expr}{es:List Expr}{ta:TE}{t:TA}
theorem Zmi{pins:List (Addr×Obj)}{σ:St}{H:Hp}{s:Shared}{Q:VK}{us:List Value}{vs:List V}(F:FnOk X.prog X.w X.K X.mg X.base CX k f fd ps sp)(hr:Room k X.A)(hb:Binds X.K fd ps ds)(hd:Vals dvs ds)(hx:ZgV CX X E)
    (I:Inv X pins σ H s) (r:Vals vs us) (h:sp (vs++dvs) H Q E):wpAny (model X.prog X.w) X.A (call (.ref f) us) (EP X pins σ Q) X.xe s:=by
  have r2:Vals (vs++dvs) (us++ds):=r.append hd
  have hl:(us++ds).length=ps.length:=by rw[<-r2.length]; exact F.len _ _ _ _ h
  refine wpAny_call (codeAny_mono (F.run X.A X.stack s H ⟨us,[]⟩ (us++ds) (vs++dvs) Q E hr I.env0 (hb s us I.kIn hl) r2 h) λr s' hq=>?_)
  cases r with
  | error e=>exact hx pins σ H s e s' I hq
  | ok fl =>
    cases fl with
    | ret u=>exact I.after hq
    | next=>exact False.elim hq
    | brk=>exact False.elim hq
    | cont=>exact False.elim hq
theorem ZmR(F:FnOk X.prog X.w X.K X.mg X.base CX k f fd ps sp)(hr:Room k X.A)(hg:Gl X x)(hm:X.mg x=some (.ref f))(hk:PySem.W.keepIn X.K (.ref f)=true)(hb:Binds X.K fd ps ds)(hd:Vals dvs ds)(hx:ZgV CX X E)
    (ha:PA X (e::es) t) (hdb:(x==("__debug__" : Str))=false:=by decide) (he:starEach (e::es) X.env=(false,eval e X.env)::starEach es X.env:=by rfl) (hpl:(backTo pos (starEach es X.env)).any (·.1)=false:=by rfl) :
    PE X (.Call (.Name x p) (e::es) [] pos) (Zob sp dvs E t):=by
  intro pins s σ H Q I h
  refine wpAny_Call_Name_kw (Zdi I hg hm ?_ hdb)
  refine PySem.W.callWith_K (h₀:=X.base) I.ok.mod.kin hk (thn (ha pos pins s σ H _ I h) λus s1 ⟨vs,H1,I1,r,q⟩=>⟨I1.kIn,?_⟩) he hpl
  exact Zmi F hr hb hd hx I1 r q
structure Mk (K:PySem.W.Frag) (C f:Addr):Prop where
  makes:PySem.W.makesIn K C=true
  init:PySem.W.findIn K (.ref C) "__init__" = some (some (.ref f))
  fn:PySem.W.isFn K (.ref f)=true
  kp:PySem.W.keepIn K (.ref C)=true
theorem Zlo{pins:List (Addr×Obj)}{σ:St}{H:Hp}{s:Shared}{Q:VK}{us:List Value}{vs:List V}(M:Mk X.K C f)(F:FnOk X.prog X.w X.K X.mg X.base CX k f fd ps sp)(hr:Room (k+1) X.A)(hb:Binds X.K fd ps ds)(hd:Vals dvs ds)
    (hx:ZgV CX X E) (I:Inv X pins σ H s) (r:Vals vs us)
    (h:∀x dx,H x=none->H dx=none->dx≠x->sp (.ref x::(vs++dvs)) (upd (upd H dx (.own x)) x (.ins C dx [])) (λv H2=>v = .non/\Q (.ref x) H2) E) :
    wpAny (model X.prog X.w) X.A (call (.ref C) us) (EP X pins σ Q) X.xe s:=by
  have hq:=h (s.heap.objs.size+1) s.heap.objs.size (I.hok.fresh (Ut _)) (I.hok.fresh (Q4 _)) (Qg (Ur _))
  have I2:=Inv.made (C:=C) I
  have r2:Vals (V.ref (s.heap.objs.size+1)::(vs++dvs)) (Value.ref (s.heap.objs.size+1)::(us++ds)):=.cons rfl (r.append hd)
  have hl:(Value.ref (s.heap.objs.size+1)::us++ds).length=ps.length:=by
    have e:=r2.length
    rw[F.len _ _ _ _ hq] at e
    exact e.symm
  refine wpAny_call (Zln (f:=f) I.kIn M.makes M.init (beq_iff_eq.mp M.fn) (codeAny_mono (F.run _ X.stack _ _ ⟨Value.ref (s.heap.objs.size+1)::us,[]⟩ (Value.ref (s.heap.objs.size+1)::(us++ds)) _ _ E (hr.make C us [])
    (I2.env0.make C us []) (hb _ (Value.ref (s.heap.objs.size+1)::us) I2.kIn hl) r2 hq) λr s' hq'=>?_))
  cases r with
  | error e=>exact hx pins σ _ _ e s' I2 hq'
  | ok fl =>
    cases fl with
    | ret u =>
      obtain ⟨v,H',I3,rv,ev,q3⟩:=I2.after hq'
      subst ev
      exact ⟨rv,⟨V.ref (s.heap.objs.size+1),H',I3,rfl,q3⟩⟩
    | next=>exact False.elim hq'
    | brk=>exact False.elim hq'
    | cont=>exact False.elim hq'
theorem ZmS(M:Mk X.K C f)(F:FnOk X.prog X.w X.K X.mg X.base CX k f fd ps sp)(hr:Room (k+1) X.A)(hg:Gl X x)(hm:X.mg x=some (.ref C))(hb:Binds X.K fd ps ds)(hd:Vals dvs ds)(hx:ZgV CX X E)
    (ha:PA X (e::es) t) (hdb:(x==("__debug__" : Str))=false:=by decide) (he:starEach (e::es) X.env=(false,eval e X.env)::starEach es X.env:=by rfl) (hpl:(backTo pos (starEach es X.env)).any (·.1)=false:=by rfl) :
    PE X (.Call (.Name x p) (e::es) [] pos) (Zoc C sp dvs E t):=by
  intro pins s σ H Q I h
  refine wpAny_Call_Name_kw (Zdi I hg hm ?_ hdb)
  refine PySem.W.callWith_K (h₀:=X.base) I.ok.mod.kin M.kp (thn (ha pos pins s σ H _ I h) λus s1 ⟨vs,H1,I1,r,q⟩=>⟨I1.kIn,?_⟩) he hpl
  exact Zlo M F hr hb hd hx I1 r q
end
section
variable{X:Cx}{CX:CXT}{k:Nat}{f C:Addr}{fd:FuncData}{ps ks:List Str}{sp:Sp}{E:XK}{x m:Str}{p pos apos kpos:Pos}{e o:Expr}{es:List Expr}{kws:List Keyword}{te ta:TE}{t tk:TA}{nm:Option Str}
structure KBinds (K:PySem.W.Frag) (fd:FuncData) (ps ks:List Str) (g:List Value->List Value->List Value) (gV:List V->List V->List V):Prop where
  to:∀(s:Shared) (us ws:List Value),K.In s.heap->(g us ws).length=ps.length->BindsTo s fd ⟨us,ks.zip ws⟩ (ps.zip (g us ws))
  rel:∀ {vs:List V} {us:List Value} {zs:List V} {ws:List Value},Vals vs us->Vals zs ws->Vals (gV vs zs) (g us ws)
variable{g:List Value->List Value->List Value}{gV:List V->List V->List V}
end
structure FnScope (N P:List Str) (sc:Scope):Prop where
  kind:sc.kind = .function
  co:sc.isCoroutine=false
  gen:sc.isGenerator=false
  nd:N.Nodup
  pre:N.take P.length=P
  par:∀x∈P,sc.names.lookup x=some .local\/sc.names.lookup x=some .cell
  nofree:∀y∈sc.names,y.2 ≠ .free
theorem ZgW{kindOf:Str->Option NameKind}{x:Str}:∀ {binds:List (Str×Value)} {m:Str->Option Value},(∀v,(x,v)∉binds)->bindL kindOf binds m x=m x
  | [],_,_=>rfl
  | (n,v)::r,m,h=>by
    unfold bindL
    rw[ZgW λw hw=>h w (Wh _ hw)]
    split
    · have:x≠n:=by rintro rfl; exact h v Wa
      simp[this]
    · rfl
theorem ZgX{kindOf:Str->Option NameKind}{x:Str}:∀ {binds:List (Str×Value)} {m:Str->Option Value},(∀v,(x,v)∉binds)->bindC kindOf binds m x=m x
  | [],_,_=>rfl
  | (n,v)::r,m,h=>by
    unfold bindC
    rw[ZgX λw hw=>h w (Wh _ hw)]
    split
    · rfl
    · have:x≠n:=by rintro rfl; exact h v Wa
      simp[this]
theorem ZgY{kindOf:Str->Option NameKind}{x:Str}{v:Value}:∀ {P:List Str} {vs:List Value} {i:Nat} {m:Str->Option Value},P.Nodup->P[i]?=some x->vs[i]?=some v->kindOf x=some .local →
    bindL kindOf (P.zip vs) m x=some v
  | [],_,_,_,_,h,_,_=>by simp at h
  | _::_,[],_,_,_,_,h,_=>by simp at h
  | p::P,w::vs,0,m,nd,h1,h2,hk=>by
    simp at h1 h2; subst h1; subst h2
    show bindL kindOf ((p,w)::P.zip vs) m p=_
    unfold bindL
    rw[ZgW λv hv=>(List.nodup_cons.mp nd).1 (List.of_mem_zip hv).1,if_pos hk]
    simp
  | p::P,w::vs,i+1,m,nd,h1,h2,hk=>by
    show bindL kindOf ((p,w)::P.zip vs) m x=_
    unfold bindL
    exact ZgY (i:=i) (List.nodup_cons.mp nd).2 (by simpa using h1) (by simpa using h2) hk
theorem ZgZ{kindOf:Str->Option NameKind}{x:Str}{v:Value}:∀ {P:List Str} {vs:List Value} {i:Nat} {m:Str->Option Value},P.Nodup->P[i]?=some x->vs[i]?=some v->kindOf x≠some .local →
    bindC kindOf (P.zip vs) m x=some v
  | [],_,_,_,_,h,_,_=>by simp at h
  | _::_,[],_,_,_,_,h,_=>by simp at h
  | p::P,w::vs,0,m,nd,h1,h2,hk=>by
    simp at h1 h2; subst h1; subst h2
    show bindC kindOf ((p,w)::P.zip vs) m p=_
    unfold bindC
    rw[ZgX λv hv=>(List.nodup_cons.mp nd).1 (List.of_mem_zip hv).1,if_neg hk]
    simp
  | p::P,w::vs,i+1,m,nd,h1,h2,hk=>by
    show bindC kindOf ((p,w)::P.zip vs) m x=_
    unfold bindC
    exact ZgZ (i:=i) (List.nodup_cons.mp nd).2 (by simpa using h1) (by simpa using h2) hk
def start(N:List Str)(vs:List V):St:=vs.map some++List.replicate (N.length-vs.length) none
def ZmT(CX:CXT)(P:Program)(w:World)(K:PySem.W.Frag)(mg:Str->Option Value)(base:Heap)(N:List Str)(qual:Str)(scope:Scope)(f:Addr)(cd:Value)(A:Around)(outer:List Env)(s:Shared)(H:Hp)(E:XK):Cx where
  prog:=P
  w:=w
  K:=K
  mg:=mg
  base:=base
  A:=A.deeper (envOfC qual scope s.heap.objs.size f cd)
  N:=N
  s₀:=s
  H₀:=H
  env:=envOfC qual scope s.heap.objs.size f cd
  outer:=outer
  stack:=envOfC qual scope s.heap.objs.size f cd::outer
  ex:=[]
  calm:=true
  fn:=λ_=>true
  pn:=[]
  xe:=λe s'=>wpAny (model P w) (A.deeper (envOfC qual scope s.heap.objs.size f cd)) (leaving (envOfC qual scope s.heap.objs.size f cd) e) (λ_ s''=>CX outer H s E e s'') (λe' s''=>CX outer H s E e' s'') s'
theorem Zis{sc:Scope}{n:Nat}{x:Str}(h:sc.names.lookup x=some .cell):∃c,(cellsFrom n sc.names []).lookup x=some c:=by
  have q:=PySem.W.cellsFrom_some sc.names n [] (.inl h)
  exact Option.isSome_iff_exists.mp q
theorem ZjS{CX:CXT}{P:Program}{w:World}{K:PySem.W.Frag}{mg:Str->Option Value}{base:Heap}{N ps:List Str}{qual:Str}{scope:Scope}{f:Addr}{cd:Value}{A:Around}{outer:List Env}{s s1:Shared}{H:Hp}{E:XK}{us:List Value}{vs:List V}
    (S:FnScope N ps scope) (hd:A.handled=none) (e0:Env0 P w K mg base A outer s H) (hl:vs.length=ps.length) (r:Vals vs us)
    (x:InCallC s s.heap.objs.size (bindL (envOfC qual scope s.heap.objs.size f cd).kindOf (ps.zip us) λ_=>none) (cellsFrom (s.heap.objs.size+1) scope.names []) (bindC (envOfC qual scope s.heap.objs.size f cd).kindOf (ps.zip us) λ_=>none) s1) :
    Inv (ZmT CX P w K mg base N qual scope f cd A outer s H E) [] (start N vs) H s1:=by
  have hpl:ps.length<=N.length:=by have:=congrArg List.length S.pre; rw[Qi] at this; omega
  obtain ⟨h1,tk,rfl,hk⟩:=x.done
  have noA:∀b:Addr,b∉(ZmT CX P w K mg base N qual scope f cd A outer s H E).ex:=λb z=>absurd (show b∈([]:List Addr) from z) (by simp)
  refine ⟨⟨e0.mod,S.kind,rfl,rfl,Q4 _,λy z c h1 h2=>?_,λy hy=>?_,λy c _ h=>?_,λ_=>hd,Around.frames_deeper e0.frames,.inr ⟨rfl,rfl⟩,λb z=>absurd z (noA b),e0.bs,e0.bsz,λb _ _=>noA b,λb z=>absurd z (noA b),e0.funs,e0.frf⟩,
    rfl,e0.bare,Un.kept hk,⟨_,x.toInCall.ns,λi y v h1 h2 h3=>?_⟩,λy c h=>⟨_,x.cell y c h⟩,e0.hok.fresh (Q4 _),λy c h=>?_,λp hp=>absurd (show p∈([]:List (Addr×Obj)) from hp) (by simp),e0.hok.kept hk,?_⟩
  · exact name_of_addr x.apart (PySem.mem_of_lookup h1) (PySem.mem_of_lookup h2)
  · have hy:scope.names.lookup y=some .cell\/scope.names.lookup y=some .free:=hy
    rcases hy with hy | hy
    · exact Zis hy
    · exact absurd rfl (S.nofree _ (PySem.mem_of_lookup hy))
  · exact Ug (x.above y c (PySem.mem_of_lookup h))
  · have hi:i<vs.length:=by
      unfold start at h2
      by_cases hi:i<vs.length
      · exact hi
      · rw[Ws (by simpa using hi)] at h2
        rw[List.getElem?_replicate] at h2
        split at h2 <;> cases h2
    have ha:vs[i]?=some v:=by
      unfold start at h2
      rw[Wi (by simpa using hi),Qa] at h2
      cases e:vs[i]? with
      | none=>rw[e] at h2; cases h2
      | some a=>rw[e] at h2; cases h2; rfl
    obtain ⟨u,hu,rv⟩:=r.get ha
    have hp:ps[i]?=some y:=by
      rw[<-S.pre,List.getElem?_take_of_lt ⋯]; exact h1
    have ndP:ps.Nodup:=by rw[<-S.pre]; exact S.nd.sublist (List.take_sublist _ _)
    refine ⟨u,rv,?_⟩
    rcases S.par y (Q8 hp) with k | k
    · exact .inl ⟨k,ZgY ndP hp hu k⟩
    · obtain ⟨c,e⟩:=Zis (n:=s.heap.objs.size+1) k
      refine .inr ⟨.inl k,c,e,?_⟩
      have q:=x.cell y c e
      rw[ZgZ ndP hp hu (by show scope.names.lookup y≠_; rw[k]; decide)] at q
      exact q
  · exact e0.hok.fresh (Ug (x.above y c (PySem.mem_of_lookup h)))
  · unfold start
    show _=N.length
    rw[Qb,Q1,Wt]
    omega
theorem ZmU{CX:CXT}{P:Program}{w:World}{K:PySem.W.Frag}{mg:Str->Option Value}{base:Heap}{k:Nat}{f:Addr}{name qual:Str}{params:Arguments}{body:List Stmt}{scope:Scope}{dV kV doc pm cdv ct oc:Value}{an od:Option Addr}
    {osl:Array (Option Value)} {N ps:List Str} {sp:Sp} (lk:K.lookup f=some ⟨oc,od,.func (PySem.W.fnOf name qual params body scope dV kV doc pm an cdv ct),osl⟩) (hcd:PySem.W.codeIn K cdv qual=true) (S:FnScope N ps scope)
    (len:∀vs H Q E,sp vs H Q E->vs.length=ps.length)
    (hbody:∀(A:Around) (outer:List Env) (s:Shared) (H:Hp) (vs:List V) (Q:VK) (E:XK),Room k (A.deeper (envOfC qual scope s.heap.objs.size f cdv))->sp vs H Q E →
      ∃t,PSs (ZmT CX P w K mg base N qual scope f cdv A outer s H E) body t/\t { nx:=λ_ H'=>Q .non H',rt:=Q } (start N vs) H) :
    FnOk P w K mg base CX (k+1) f (PySem.W.fnOf name qual params body scope dV kV doc pm an cdv ct) ps sp:=by
  refine ⟨len,λA outer s H args us vs Q E hr e0 hb r hsp=>?_⟩
  have hl:=len _ _ _ _ hsp
  have KX:K.In s.heap:=e0.mod.kin.keeps λb o e=>(e0.bs b o e).1
  have lim:s.heap.NoLimit:=e0.mod.nolimit.keeps λb o e=>(e0.bs b o e).1
  have hkind:∀y∈ps.zip us,scope.names.lookup y.1=some .local\/(scope.names.lookup y.1=some .cell/\((cellsFrom (s.heap.objs.size+1) scope.names []).lookup y.1).isSome=true):=λ⟨n,v⟩ hy=>by
    rcases S.par n (List.of_mem_zip hy).1 with q | q
    · exact .inl q
    · exact .inr ⟨q,PySem.W.cellsFrom_some _ _ _ (.inl q)⟩
  refine codeAny_call_function hr.depth (KX _ _ lk) rfl S.co S.gen rfl (PySem.W.codeRec_of KX hcd) (hb _ _ _ _ ?_)
  refine wpAny_newFunctionEnv_cells S.kind hkind λenv he s1 x=>?_
  subst he
  refine ⟨lim.keeps x.toInCall.keep,codeAny_func ?_⟩
  obtain ⟨t,ht,hq⟩:=hbody A outer s H vs Q E (hr.deeper _) hsp
  have I:Inv (ZmT CX P w K mg base N qual scope f cdv A outer s H E) [] (start N vs) H s1:=ZjS S hr.hd e0 hl r x
  refine wpAny_mono (ht [] s1 (start N vs) H _ I hq) (λfl s' hs=>?_) λe s' hs=>hs
  have fin:∀ {σ':St} {H':Hp} {v:V} {u:Value},Inv (ZmT CX P w K mg base N qual scope f cdv A outer s H E) [] σ' H' s'->RelV v u->Q v H'->CE outer P w H s Q u s' :=
    fun {σ' H' v u} J rv q=>⟨v,H',J.os,J.bare,J.base,J.hok,rv,q⟩
  cases fl with
  | ret u =>
    obtain ⟨v,σ',H',J,rv,q⟩:=hs
    exact fin J rv q
  | next =>
    obtain ⟨σ',H',J,q⟩:=hs
    exact fin (v:=V.non) (u:=Value.none) J rfl q
  | brk =>
    obtain ⟨_,_,_,q⟩:=hs
    exact False.elim q
  | cont =>
    obtain ⟨_,_,_,q⟩:=hs
    exact False.elim q
end L2
namespace L2
open PySem PySem.Spec PyProof.Rows
section
variable{X:Cx}{x:Str}{p pos:Pos}{e:Expr}{es:List Expr}{t:TA}{id T:String}{r:List V->Hp->VK->Prop}
def tCB(r:List V->Hp->VK->Prop)(t:TA):TE:=λσ H Q=>t σ H λvs H1=>r vs H1 Q
theorem Zak(hc:CallR X (.builtin id) r)(hg:Gl X x)(hm:X.mg x=none)(hv:bootBuiltins x=some (.builtin id))(ha:PA X (e::es) t)(hn:x ≠ "__name__" := by decide) (hdb:(x==("__debug__" : Str))=false:=by decide)
    (he:starEach (e::es) X.env=(false,eval e X.env)::starEach es X.env:=by rfl) (hpl:(backTo pos (starEach es X.env)).any (·.1)=false:=by rfl):PE X (.Call (.Name x p) (e::es) [] pos) (tCB r t):=by
  intro pins s σ H Q I h
  refine wpAny_Call_Name_kw (ZdD I hg hm hv ?_ hn hdb)
  exact PyProof.Rows.callWith_builtin1 (thn (ha pos pins s σ H _ I h) λus s1 ⟨vs,H1,I1,r1,q1⟩=>hc pins s1 σ H1 vs us Q I1 r1 q1) he hpl
theorem Zbc(hc:CallR X (.type T) r)(hg:Gl X x)(hm:X.mg x=none)(hv:bootBuiltins x=some (.type T))(ha:PA X (e::es) t)(hn:x ≠ "__name__" := by decide) (hdb:(x==("__debug__" : Str))=false:=by decide)
    (he:starEach (e::es) X.env=(false,eval e X.env)::starEach es X.env:=by rfl) (hpl:(backTo pos (starEach es X.env)).any (·.1)=false:=by rfl):PE X (.Call (.Name x p) (e::es) [] pos) (tCB r t):=by
  intro pins s σ H Q I h
  refine wpAny_Call_Name_kw (ZdD I hg hm hv ?_ hn hdb)
  exact PyProof.Rows.callWith_type1 (thn (ha pos pins s σ H _ I h) λus s1 ⟨vs,H1,I1,r1,q1⟩=>hc pins s1 σ H1 vs us Q I1 r1 q1) he hpl
end
end L2
namespace HT
open PySem PyProof.Rows
section
open PySem.SeqAt
open PySem.AutoSeq1 (wpAny_loadPart')
open PySem.MeetsSeq PySem.MeetsSeq2 PySem.MeetsSeq3
end
section
variable{prog:Program}{w:World}{A:Around}{E:Value->Shared->Prop}{s:Shared}
def sIx(n d:Nat):Option Int->Nat
  | none=>d
  | some v=>if v<0 then (v+(n:Int)).toNat else min v.toNat n
theorem sIx_none(n d:Nat):sIx n d none=d:=rfl
theorem sIx_nat(n d k:Nat):sIx n d (some (k:Int))=min k n:=by
  show (if (k:Int)<0 then ((k:Int)+(n:Int)).toNat else min (k:Int).toNat n)=min k n
  rw[if_neg ⋯,Q6]
end
end HT
namespace L2
open PySem PySem.Spec PyProof.Rows
abbrev TO:=St->Hp->(Option Int->Hp->Prop)->Prop
def PO(X:Cx)(e:Option Expr)(t:TO):Prop :=
  ∀(pins:List (Addr×Obj)) (s:Shared) (σ:St) (H:Hp) (Q:Option Int->Hp->Prop),Inv X pins σ H s->t σ H Q →
    wpAny (model X.prog X.w) X.A (evalPart e X.env) (λu s'=>∃o H',Inv X pins σ H' s'/\IsPart u o/\Q o H') X.xe s
def ZmV:TO:=λ_ H Q=>Q none H
def Zpk(t:TE):TO:=λσ H Q=>t σ H λx H1=>∃i,x = .int i/\Q (some i) H1
section
variable{X:Cx}{e:Expr}{te:TE}{lo hi:Option Expr}{tl th:TO}{pos p2:Pos}
theorem Zcm:PO X none ZmV:=by
  intro pins s σ H Q I h
  rw[evalPart_none]
  exact wpAny_pure ⟨none,H,I,.none,h⟩
theorem Zbs(h:PE X e te):PO X (some e) (Zpk te):=by
  intro pins s σ H Q I hw
  rw[evalPart_some]
  refine thn (h pins s σ H _ I hw) λu s1 ⟨x,H1,I1,r1,q1⟩=>?_
  obtain ⟨i,rfl,q⟩:=q1
  obtain ⟨t,rfl⟩:=r1
  exact ⟨some i,H1,I1,.int i t,q⟩
def SlR(X:Cx)(r:V->Option Int->Option Int->Hp->VK->Prop):Prop :=
  ∀(pins:List (Addr×Obj)) (s:Shared) (σ:St) (H:Hp) (x:V) (v vl vu:Value) (lo hi:Option Int) (sl:Addr) (Q:VK),Inv X pins σ H s->RelV x v->s.heap.IsSliceOf sl vl vu .none->IsPart vl lo->IsPart vu hi->r x lo hi H Q →
    ∃T id,typeLookup (.type T) "__getitem__" = pure (some (.builtin id))/\s.TypeIs v T/\wpAny (model X.prog X.w) X.A (getItem v (.ref sl)) (EP X pins σ Q) X.xe s
theorem SlR.or{r r':V->Option Int->Option Int->Hp->VK->Prop}(h:SlR X r)(h':SlR X r'):SlR X (λx lo hi H Q=>r x lo hi H Q\/r' x lo hi H Q):=by
  intro pins s σ H x v vl vu lo hi sl Q I rx hs pl pu q
  rcases q with q | q
  · exact h pins s σ H x v vl vu lo hi sl Q I rx hs pl pu q
  · exact h' pins s σ H x v vl vu lo hi sl Q I rx hs pl pu q
def tSl(r:V->Option Int->Option Int->Hp->VK->Prop)(te:TE)(tl th:TO):TE:=λσ H Q=>te σ H λx H1=>tl σ H1 λl H2=>th σ H2 λu H3=>r x l u H3 Q
theorem Zbl{r:V->Option Int->Option Int->Hp->VK->Prop}(hr:SlR X r)(he:PE X e te)(hl:PO X lo tl)(hu:PO X hi th):PE X (.Subscript e (.Slice lo hi none p2) pos) (tSl r te tl th):=by
  intro pins s σ H Q I h
  refine Subscript_ (thn (he pins s σ H _ I h) λv s1 ⟨x,H1,I1,r1,q1⟩=>?_)
  refine wpAny_Slice (thn (hl pins s1 σ H1 _ I1 q1) λvl s2 ⟨l,H2,I2,pl,q2⟩=>thn (hu pins s2 σ H2 _ I2 q2) λvu s3 ⟨u,H3,I3,pu,q3⟩=>?_)
  rw[evalPart_none]
  refine wpAny_pure ?_
  have I4:Inv X pins σ H3 { s3 with heap:=s3.heap.push { cls:=.type "slice", data:=.fields #[vl,vu,.none] } }:=I3.kept (t':=s3.toks) λb ob q=>Heap.get?_push_of_some _ q
  obtain ⟨T,id,hT,ht,hg⟩:=hr pins { s3 with heap:=s3.heap.push { cls:=.type "slice", data:=.fields #[vl,vu,.none] } } σ H3 x v vl vu l u s3.heap.objs.size Q I4 r1 (Heap.IsSliceOf.new ..) pl pu q3
  show wpAny (model X.prog X.w) X.A (subscriptTail e (.Slice lo hi none p2) v (.ref s3.heap.objs.size)) (EP X pins σ Q) X.xe { s3 with heap:=s3.heap.push { cls:=.type "slice", data:=.fields #[vl,vu,.none] } }
  exact tail_any (ops:=[.ref s3.heap.objs.size,v]) ht hT hg (by with_unfolding_all rfl)
def ZeT(xs:List V)(lo hi:Option Int):List V:=(xs.drop (HT.sIx xs.length 0 lo)).take (HT.sIx xs.length xs.length hi-HT.sIx xs.length 0 lo)
theorem Zhz(xs:List V)(lo hi:Option Int):(ZeT xs lo hi).length<=xs.length:=by
  unfold ZeT
  rw[Qi,Wj]
  omega
end
end L2
namespace L2
open PySem PySem.Spec PyProof.Rows
def ixN(n:Nat)(i:Int):Option Nat:=if 0<=i then (if i<n then some i.toNat else none) else if -(n:Int)<=i then some (i+n).toNat else none
def atI{α:Type}(xs:List α)(i:Int):Option α:=(ixN xs.length i).bind λj=>xs[j]?
theorem ZjT{n:Nat}{i:Int}{j:Nat}(h:ixN n i=some j):seqIndex? i n=some j/\j<n /\ -(n:Int)<=i/\i<n:=by
  unfold ixN at h
  by_cases h0:0<=i
  · rw[if_pos h0] at h
    by_cases h1:i<n
    · rw[if_pos h1] at h
      have e:i.toNat=j:=Option.some.inj h
      exact ⟨by rw[seqIndex_of h0 h1,e],⋯,⋯,h1⟩
    · rw[if_neg h1] at h; cases h
  · rw[if_neg h0] at h
    by_cases h1:-(n:Int)<=i
    · rw[if_pos h1] at h
      have e:(i+n).toNat=j:=Option.some.inj h
      exact ⟨by rw[seqIndex_neg ⋯ h1,e],⋯,h1,⋯⟩
    · rw[if_neg h1] at h; cases h
theorem ZjU{α:Type}{xs:List α}{i:Int}{v:α}(h:atI xs i=some v):∃j,seqIndex? i xs.length=some j/\xs[j]?=some v/\j<xs.length /\ -(xs.length:Int)<=i/\i<xs.length:=by
  unfold atI at h
  cases e:ixN xs.length i with
  | none=>rw[e] at h; cases h
  | some j =>
    rw[e] at h
    obtain ⟨h1,h2,h3,h4⟩:=ZjT e
    exact ⟨j,h1,h,h2,h3,h4⟩
theorem ZaF{α:Type}{xs:List α}{j:Nat}{v:α}(h:xs[j]?=some v):atI xs (j:Int)=some v:=by
  have hj:j<xs.length:=(Qk.mp h).1
  have e:ixN xs.length (j:Int)=some j:=by
    unfold ixN
    rw[if_pos ⋯,if_pos ⋯]; simp
  unfold atI; rw[e]; exact h
def ZmW(b:Expr):Prop:=∀o i,subscripted b false o i=operate [o,i] (getItem o i)
def IxR(X:Cx)(r:R2):Prop :=
  ∀(value slice:Expr) (pins:List (Addr×Obj)) (s:Shared) (σ:St) (H:Hp) (x y:V) (v u:Value) (Q:VK),Inv X pins σ H s->RelV x v->RelV y u->r x y H Q →
    subscripted slice false v u=operate [v,u] (getItem v u)->wpAny (model X.prog X.w) X.A (subscriptTail value slice v u) (EP X pins σ Q) X.xe s
def MtR(X:Cx)(id:String)(r:V->List V->Hp->VK->Prop):Prop :=
  ∀(pins:List (Addr×Obj)) (s:Shared) (σ:St) (H:Hp) (x:V) (xs:List V) (v:Value) (us:List Value) (Q:VK),Inv X pins σ H s->RelV x v->Vals xs us->r x xs H Q →
    wpAny (model X.prog X.w) X.A (call (.builtin id) (v::us)) (EP X pins σ Q) X.xe s
section
variable{X:Cx}{a b:Expr}{ta tb:TE}{pos:Pos}
theorem IxR.or{r r':R2}(h:IxR X r)(h':IxR X r'):IxR X (λx y H Q=>r x y H Q\/r' x y H Q):=by
  intro value slice pins s σ H x y v u Q I rx ry q hs
  rcases q with q | q
  · exact h value slice pins s σ H x y v u Q I rx ry q hs
  · exact h' value slice pins s σ H x y v u Q I rx ry q hs
theorem MtR.or{id:String}{r r':V->List V->Hp->VK->Prop}(h:MtR X id r)(h':MtR X id r'):MtR X id (λx xs H Q=>r x xs H Q\/r' x xs H Q):=by
  intro pins s σ H x xs v us Q I rx rs q
  rcases q with q | q
  · exact h pins s σ H x xs v us Q I rx rs q
  · exact h' pins s σ H x xs v us Q I rx rs q
theorem Zam{r:R2}(hr:IxR X r)(ha:PE X a ta)(hb:PE X b tb)(hs:ZmW b):PE X (.Subscript a b pos) (tOp r ta tb):=by
  intro pins s σ H Q I h
  exact Subscript_ (Zpg ha hb I h λv u s2 x y H2 I2 rx ry q=>hr a b pins s2 σ H2 x y v u Q I2 rx ry q (hs _ _))
inductive Zpl (K:PySem.W.Frag) (x y:V) (H:Hp) (Q:VK):Prop
  | mk (p:Addr) (xs:List V) (i:Int) (v:V) (_:x = .ref p) (_:y = .int i) (_:SqL K H p xs) (_:atI xs i=some v) (_:Q v H):Zpl K x y H Q
inductive ZpO (K:PySem.W.Frag) (x y:V) (H:Hp) (Q:VK):Prop
  | mk (p:Addr) (xs:List V) (i:Int) (v:V) (_:x = .ref p) (_:y = .int i) (_:SqT K H p xs) (_:atI xs i=some v) (_:Q v H):ZpO K x y H Q
theorem Zau:IxR X (Zpl X.K):=by
  intro value slice pins s σ H x y v u Q I rx ry h hs
  obtain ⟨p,xs,i,z,rfl,rfl,hq,he,q⟩:=h
  cases rx
  obtain ⟨t,rfl⟩:=ry
  obtain ⟨its,r,pl,hz⟩:=I.list hq
  obtain ⟨j,h1,h2,h3,h4,h5⟩:=ZjU he
  obtain ⟨w,ew,rw'⟩:=r.get h2
  have hl:=r.length
  have hn:=Zip
  have fin:EP X pins σ Q w s:=⟨z,H,I,rw',q⟩
  by_cases h0:0<=i
  · have hj:i.toNat=j:=by
      rw[seqIndex_of h0 h5] at h1
      exact Option.some.inj h1
    exact item_listR pl.isList h0 ⋯ (by rw[hj]; simpa using ew) fin hs
  · have hj:(i+(its.toArray.size:Int)).toNat=j:=by
      rw[seqIndex_neg ⋯ h4] at h1
      rw[Qe,<-hl]
      exact Option.some.inj h1
    exact subscriptTail_builtinR (x:=w) pl.isList.typeIs slot_list_getitem.lookup
      (wpAny_getItem_list_neg (Q:=λr s'=>r=w/\EP X pins σ Q r s') pl.isList ⋯ (by rw[Qe] <;> omega) ⋯ (by rw[hj]; simpa using ew) ⟨rfl,fin⟩) hs
theorem Zaq:IxR X (ZpO X.K):=by
  intro value slice pins s σ H x y v u Q I rx ry h hs
  obtain ⟨p,xs,i,z,rfl,rfl,hq,he,q⟩:=h
  cases rx
  obtain ⟨t,rfl⟩:=ry
  obtain ⟨its,r,pl,hz⟩:=I.tuple hq
  obtain ⟨j,h1,h2,h3,h4,h5⟩:=ZjU he
  obtain ⟨w,ew,rw'⟩:=r.get h2
  have hl:=r.length
  have hn:=Zip
  have fin:EP X pins σ Q w s:=⟨z,H,I,rw',q⟩
  exact subscriptTail_builtinR (x:=w) pl.typeIs slot_tuple_getitem.lookup
    (getItem_tuple (j:=j) (Q:=λr s'=>r=w/\EP X pins σ Q r s') pl ⋯ ⋯ (by rw[Qe,<-hl]; exact h1) (by simpa using ew) ⟨rfl,fin⟩) hs
theorem Zi3(its:List Value)(n j:Nat)(u:Value):Obj.mapSeq (·.setIfInBounds j u) { cls:=.type "list", data:=.seq its.toArray n }={ cls:=.type "list", data:=.seq (its.set j u).toArray n }:=by
  simp[Obj.mapSeq]
theorem Inv.lst{pins:List (Addr×Obj)}{σ:St}{H:Hp}{s:Shared}{p:Addr}{xs:List V}(I:Inv X pins σ H s)(h:H p=some (.lst xs)) :
    ∃(its:List Value) (n:Nat),Vals xs its/\s.heap.get? p=some { cls:=.type "list", data:=.seq its.toArray n }/\xs.length<=sizeLine:=by
  obtain ⟨z,its,n,r,e⟩:=I.hok p _ h
  exact ⟨its,n,r,e,z⟩
theorem Inv.lstUpd{pins:List (Addr×Obj)}{σ:St}{H:Hp}{s:Shared}{p:Addr}{xs ys:List V}{its its':List Value}{n n':Nat}{f:Obj->Obj}(I:Inv X pins σ H s)(h:H p=some (.lst xs))
    (ho:s.heap.get? p=some { cls:=.type "list", data:=.seq its.toArray n }) (hf:f { cls:=.type "list", data:=.seq its.toArray n }={ cls:=.type "list", data:=.seq its'.toArray n' }) (r:Vals ys its') (hz:ys.length<=sizeLine) (t:Nat) :
    Inv X pins σ (upd H p (.lst ys)) { s with heap:=s.heap.update p f,toks:=t }:=by
  have e:(s.heap.update p f).get? p=some { cls:=.type "list", data:=.seq its'.toArray n' }:=by
    rw[Heap.get?_update_self f ho (by rw[hf] <;> rfl),hf]
  refine I.write (x:=p) (e:=p) (by rw[h]; trivial) (.inl rfl) (λb u hb q=>(Heap.get?_update_other _ _ (Ne.symm hb)).trans q) ⟨_,e⟩ ?_
  exact ⟨hz,its',n',r,e⟩
inductive Zod (o i v:V) (H:Hp) (Q:Hp->Prop):Prop
  | mk (p:Addr) (xs:List V) (k:Int) (j:Nat) (_:o = .ref p) (_:i = .int k) (_:H p=some (.lst xs)) (_:ixN xs.length k=some j) (_:Q (upd H p (.lst (xs.set j v)))):Zod o i v H Q
theorem ZbY:ZpK X Zod:=by
  intro pins s σ H o i v ov iv u Q I ro ri rv h
  obtain ⟨p,xs,k,j,rfl,rfl,hp,hj,q⟩:=h
  cases ro
  obtain ⟨t,rfl⟩:=ri
  obtain ⟨its,n,r,ho,hz⟩:=I.lst hp
  obtain ⟨h1,h2,h3,h4⟩:=ZjT hj
  have hl:=r.length
  have hn:=Zip
  have I':Inv X pins σ (upd H p (.lst (xs.set j v))) { s with heap:=s.heap.update p (Obj.mapSeq (·.setIfInBounds j u)) } :=
    I.lstUpd hp ho (Zi3 its n j u) (r.set rv j) (by rw[Qw]; exact hz) s.toks
  by_cases h0:0<=k
  · have hk:k.toNat=j:=by
      rw[seqIndex_of h0 h4] at h1
      exact Option.some.inj h1
    exact PySem.W.ki_setAt ho h0 ⋯ (by rw[Qe,<-hl]; exact h4) (by rw[hk]; exact ⟨_,I',q⟩)
  · have hk:(k+(its.toArray.size:Int)).toNat=j:=by
      rw[seqIndex_neg ⋯ h3] at h1
      rw[Qe,<-hl]
      exact Option.some.inj h1
    exact PySem.W.ki_setBack ho ⋯ (by rw[Qe,<-hl]; exact h3) ⋯ (by rw[hk]; exact ⟨_,I',q⟩)
theorem Zg0(lo hi:Option Int)(n:Nat):(sliceBounds lo hi none n).1=((HT.sIx n 0 lo:Nat):Int)/\(sliceBounds lo hi none n).2.1=((HT.sIx n n hi:Nat):Int)/\(sliceBounds lo hi none n).2.2=1:=by
  refine ⟨?_,?_,rfl⟩
  · cases lo with
    | none=>simp[sliceBounds,HT.sIx]
    | some i =>
      simp only[sliceBounds,HT.sIx,Option.getD_none,show (1:Int)>0 by decide,if_true]
      by_cases h:i<0
      · simp only[h,if_true] <;> omega
      · simp only[h,if_false] <;> omega
  · cases hi with
    | none=>simp[sliceBounds,HT.sIx]
    | some i =>
      simp only[sliceBounds,HT.sIx,Option.getD_none,show (1:Int)>0 by decide,if_true]
      by_cases h:i<0
      · simp only[h,if_true] <;> omega
      · simp only[h,if_false] <;> omega
theorem Zf0(its:List Value)(lo hi:Option Int):slicePick its.toArray lo hi none=((its.drop (HT.sIx its.length 0 lo)).take (HT.sIx its.length its.length hi-HT.sIx its.length 0 lo)).toArray:=by
  obtain ⟨h1,h2,h3⟩:=Zg0 lo hi its.toArray.size
  unfold slicePick
  rw[h1,h2,h3]
  simp only[sliceRange_one,pick_run,Qe] <;> rfl
def ZpP(K:PySem.W.Frag):V->Option Int->Option Int->Hp->VK->Prop:=λx lo hi H Q=>∃a xs,x = .ref a/\SqL K H a xs/\∀p,H p=none->Q (.ref p) (upd H p (.lst (ZeT xs lo hi)))
theorem ZbQ:SlR X (ZpP X.K):=by
  intro pins s σ H x v vl vu lo hi sl Q I rx hs pl pu h
  obtain ⟨a,xs,rfl,hx,q⟩:=h
  cases rx
  obtain ⟨its,r,ht,hz⟩:=I.list hx
  have hlen:=r.length
  refine ⟨"list", _,slot_list_getitem.lookup,ht.isList.typeIs,?_⟩
  refine wpAny_getItem_list_slice ht.isList hs pl pu .none (by simp) ?_ (by rw[Qe] <;> omega)
  rw[Zf0,<-hlen]
  refine ⟨.ref s.heap.objs.size,_,I.laid (t':=s.toks) (o:=.lst (ZeT xs lo hi)) (λb ob q=>Heap.get?_push_of_some _ q) (Q4 _) ?_,rfl,q _ (I.hok.fresh (Q4 _))⟩
  exact ⟨Q0 (Zhz xs lo hi) hz,_,0,(r.drop (HT.sIx xs.length 0 lo)).take (HT.sIx xs.length xs.length hi-HT.sIx xs.length 0 lo),Heap.get?_push_size _ rfl⟩
theorem Zai:CallR X (.builtin "len") (λxs H Q=>∃p ys,xs=[.ref p]/\(SqL X.K H p ys\/SqT X.K H p ys)/\Q (.int ys.length) H):=by
  intro pins s σ H xs us Q I r h
  obtain ⟨p,ys,rfl,hq,q⟩:=h
  obtain ⟨u,rfl,rx⟩:=ZgR r
  cases rx
  have hn:=Zip
  rcases hq with hq | hq
  · obtain ⟨its,r',pl,hz⟩:=I.list hq
    have hlen:=r'.length
    exact Calls.call_len_list pl.isList (by simp only[Qe] <;> omega) ⟨.int ys.length,H,I.tok _,⟨s.toks+1,by rw[Qe,hlen]⟩,q⟩
  · obtain ⟨its,r',pl,hz⟩:=I.tuple hq
    have hlen:=r'.length
    exact len_tuple pl (by simp only[Qe] <;> omega) ⟨.int ys.length,H,I.tok _,⟨s.toks+1,by rw[Qe,hlen]⟩,q⟩
theorem CallR.or{f:Value}{r r':List V->Hp->VK->Prop}(h:CallR X f r)(h':CallR X f r'):CallR X f (λxs H Q=>r xs H Q\/r' xs H Q):=by
  intro pins s σ H xs us Q I rs q
  rcases q with q | q
  · exact h pins s σ H xs us Q I rs q
  · exact h' pins s σ H xs us Q I rs q
theorem ZbZ:CallR X (.type "list") (λxs H Q=>∃p ys,xs=[.ref p]/\(SqL X.K H p ys\/SqT X.K H p ys)/\∀l,H l=none->Q (.ref l) (upd H l (.lst ys))):=by
  intro pins s σ H xs us Q I r h
  obtain ⟨p,ys,rfl,hq,q⟩:=h
  obtain ⟨u,rfl,rx⟩:=ZgR r
  cases rx
  have fin:∀(its:List Value),Vals ys its->ys.length<=sizeLine->∀(h':Heap) (c':Nat),(∀b o',s.heap.get? b=some o'->h'.get? b=some o') →
      h'.get? s.heap.objs.size=some { cls:=.type "list", dict:=none,data:=.seq its.toArray c',slots:=#[] }->EP X pins σ Q (.ref s.heap.objs.size) { s with heap:=h' }:=λits r' hz h' c' kp e =>
    ⟨.ref s.heap.objs.size,_,I.laid (t':=s.toks) kp (Q4 _) (show ObjOk X.prog X.w _ h' _ (.lst ys) from ⟨hz,its,c',r',e⟩),rfl,q _ (I.hok.fresh (Q4 _))⟩
  rcases hq with hq | hq
  · obtain ⟨its,r',pl,hz⟩:=I.list hq
    have hlen:=r'.length
    obtain ⟨o,ho,hc,n,hd⟩:=pl.isList
    exact call_list_seq p (.inl rfl) ho hc hd (λh' c' kp e=>fin its r' hz h' c' kp e) (by simp only[Qe] <;> omega)
  · obtain ⟨its,r',pl,hz⟩:=I.tuple hq
    have hlen:=r'.length
    obtain ⟨o,ho,hc,n,hd⟩:=pl
    exact call_list_seq p (.inr rfl) ho hc hd (λh' c' kp e=>fin its r' hz h' c' kp e) (by simp only[Qe] <;> omega)
def tyV(K:PySem.W.Frag)(T:String)(x:V)(H:Hp):Prop:=match x with
  | .str _=>T = "str"
  | .int _=>T = "int"
  | .ref p=>(T = "list" /\ ∃xs,SqL K H p xs)\/(T = "tuple" /\ ∃o,K.lookup p=some o/\o.cls = .type "tuple" /\ o.dict=none) ∨
      (T = "dict" /\ ((∃kvs,H p=some (.dK kvs))\/∃kvs,H p=some (.dT kvs)))\/(T = "set" /\ ∃S n,H p=some (.set S n))
  | _=>False
theorem Zoe{pins:List (Addr×Obj)}{σ:St}{H:Hp}{s:Shared}{T:String}{x:V}{v:Value}(I:Inv X pins σ H s)(r:RelV x v)(ty:tyV X.K T x H) :
    s.TypeIs v T/\∀a,v = .ref a->∃ob,s.heap.get? a=some ob/\ob.dict=none:=by
  cases x with
  | str z =>
    obtain ⟨t,rfl⟩:=r
    cases (show T = "str" from ty)
    exact ⟨typeIs_str s z t,λ_ e=>nomatch e⟩
  | int i =>
    obtain ⟨t,rfl⟩:=r
    cases (show T = "int" from ty)
    exact ⟨typeIs_int s i t,λ_ e=>nomatch e⟩
  | ref p =>
    cases r
    rcases ty with ⟨rfl,xs,hq⟩ | ⟨rfl,o,hk,hc,hd⟩ | ⟨rfl,hk⟩ | ⟨rfl,S,n,hk⟩
    · obtain ⟨its,_,pl,_⟩:=I.list hq
      refine ⟨pl.isList.typeIs,λa e=>?_⟩
      cases e
      obtain ⟨o,n,e,c,hd,_⟩:=pl
      exact ⟨o,e,hd⟩
    · refine ⟨⟨o,I.kIn p o hk,hc⟩,λa e=>?_⟩
      cases e
      exact ⟨o,I.kIn _ o hk,hd⟩
    · have z:∃o,s.heap.get? p=some o/\o.ExactDict:=by
        rcases hk with ⟨kvs,hk⟩ | ⟨kvs,hk⟩
        · obtain ⟨_,_,_,_,o,_,_,e,ex,_⟩:=I.hok p _ hk
          exact ⟨o,e,ex⟩
        · obtain ⟨_,_,_,_,o,_,_,e,ex,_⟩:=I.hok p _ hk
          exact ⟨o,e,ex⟩
      obtain ⟨o,e,ex⟩:=z
      refine ⟨⟨o,e,ex.1⟩,λa e2=>?_⟩
      cases e2
      exact ⟨o,e,ex.2.1⟩
    · obtain ⟨o,_,_,_,e,ex,_⟩:=I.hok p _ hk
      refine ⟨⟨o,e,ex.1⟩,λa e2=>?_⟩
      cases e2
      exact ⟨o,e,ex.2.1⟩
  | _=>exact False.elim ty
def tBM(K:PySem.W.Frag)(T:String)(r:V->List V->Hp->VK->Prop)(to:TE)(t:TA):TE:=λσ H Q=>to σ H λx H1=>tyV K T x H1/\t σ H1 λxs H2=>r x xs H2 Q
variable{o e:Expr}{es:List Expr}{to:TE}{t:TA}{name:Str}{apos cpos:Pos}{T id:String}{r:V->List V->Hp->VK->Prop}
theorem ZeC(pa:PlainAttrs T)(slot:Slot T name id)(hty:typeOf (.builtin id)=pure (.type "method_descriptor")) (hm:MtR X id r) (ho:PE X o to) (ha:PA X (e::es) t)
    (hbase:attributeBase o name X.env (eval o X.env)=eval o X.env:=by rfl)
    (hfew:((backTo cpos (starEach (e::es) X.env)).all (λx=>!x.1)&&(backToKw cpos (keywordEach [] X.env)).all (λx=>x.1.isSome)
      && decide ((e::es).length+([]:List Keyword).length+(if ([]:List Keyword).isEmpty then 0 else 1)<30))=true:=by rfl)
    (hline:(apos.endLine==cpos.line)=true:=by rfl) (hs:starEach (e::es) X.env=(false,eval e X.env)::starEach es X.env:=by rfl) (hplain:(backTo cpos (starEach es X.env)).any (·.1)=false:=by rfl) :
    PE X (.Call (.Attribute o name apos) (e::es) [] cpos) (tBM X.K T r to t):=by
  intro pins s σ H Q I h
  refine wpAny_Call_method_late hbase hfew hline rfl (thn (ho pins s σ H _ I h) λv s1 ⟨x,H1,I1,r1,ty,q1⟩=>?_)
  obtain ⟨h1,h2⟩:=Zoe I1 r1 ty
  refine ⟨T,id,pa,slot,hty,h1,h2,?_⟩
  have hA:=ha cpos pins s1 σ H1 _ I1 q1
  rw[hs] at hA ⊢
  refine Calls.callWith_builtin (by show (false||(backTo cpos (starEach es X.env)).any (·.1))=false; rw[hplain] <;> rfl) (Calls.evalArgs_plain ?_)
  exact thn hA λus s2 ⟨vs,H2,I2,r2,q2⟩=>hm pins s2 σ H2 x vs v us Q I2 r1 r2 q2
/- xs.append(e),list.index on a module's tuple .. are MtR facts of 06m -/
end
end L2
namespace L2
open PySem PySem.Spec PyProof.Rows
def MtM(X:Cx)(id:String)(r:V->List V->Hp->VK->Prop):Prop :=
  ∀(pins:List (Addr×Obj)) (s:Shared) (σ:St) (H:Hp) (x:V) (xs:List V) (v:Value) (us:List Value) (Q:VK),Inv X pins σ H s->RelV x v->Vals xs us->r x xs H Q →
    wpAny (model X.prog X.w) X.A (call (.builtin id) (v::us)) (EP X pins σ Q) X.xe s
theorem Vals.one:∀ {x:V} {us:List Value},Vals [x] us->∃u,us=[u]/\RelV x u
  | _,_,.cons r .nil=>⟨_,rfl,r⟩
theorem Vals.reverse{xs:List V}{us:List Value}(h:Vals xs us):Vals xs.reverse us.reverse:=by
  induction h with
  | nil=>exact .nil
  | cons r t ih=>rw[List.reverse_cons,List.reverse_cons]; exact Vals.append ih (.cons r .nil)
section
variable{X:Cx}{pins:List (Addr×Obj)}{σ:St}{H:Hp}{s:Shared}{l b:Addr}{xs ys zs:List V}
theorem Inv.lset{its its':List Value}{n:Nat}{f:Array Value->Array Value}{t':Nat}(I:Inv X pins σ H s)(hH:H l=some (.lst xs))
    (e:s.heap.get? l=some { cls:=.type "list", data:=.seq its.toArray n }) (hf:f its.toArray=its'.toArray) (hv:Vals ys its') (hz:ys.length<=sizeLine) :
    Inv X pins σ (upd H l (.lst ys)) { s with heap:=s.heap.update l (Obj.mapSeq f),toks:=t' }:=by
  have q:=PySem.IsL.update e f
  rw[hf] at q
  refine I.write (x:=l) (e:=l) (by rw[hH]; exact trivial) (.inl rfl) (λb' u hb hu=>(Heap.get?_update_other s.heap (Obj.mapSeq f) (Ne.symm hb)).trans hu) ⟨_,q⟩ ?_
  exact ⟨hz,its',_,hv,q⟩
theorem Inv.lnew{its:List Value}{t':Nat}(I:Inv X pins σ H s)(hv:Vals ys its)(hz:ys.length<=sizeLine) :
    Inv X pins σ (upd H s.heap.objs.size (.lst ys)) { s with heap:=s.heap.push { cls:=.type "list", data:=.seq its.toArray },toks:=t' } :=
  I.laid (λ_ _ q=>Heap.get?_push_of_some _ q) (Q4 _) ⟨hz,its,0,hv,Heap.get?_push_size _ rfl⟩
theorem Inv.fresh(I:Inv X pins σ H s):H s.heap.objs.size=none:=I.hok.fresh (Q4 _)
theorem Inv.lstM(I:Inv X pins σ H s)(hH:H l=some (.lst xs)):xs.length<=sizeLine/\∃(its:List Value) (n:Nat),Vals xs its/\xs.length=its.length/\s.heap.get? l=some { cls:=.type "list", data:=.seq its.toArray n }:=by
  obtain ⟨z,its,n,r,e⟩:=I.hok l _ hH
  exact ⟨z,its,n,r,r.length,e⟩
theorem Zlp{n:Nat}(h:n<=sizeLine):Builtin.List.listTooLong n=false:=by
  unfold Builtin.List.listTooLong
  exact decide_eq_false ⋯
end
section
variable{X:Cx}
inductive ZjV (x:V) (vs:List V) (H:Hp) (Q:VK):Prop
  | mk (l:Addr) (xs:List V) (y:V) (_:x = .ref l) (_:vs=[y]) (_:H l=some (.lst xs)) (_:xs.length<sizeLine) (_:Q .non (upd H l (.lst (xs++[y])))):ZjV x vs H Q
theorem Za3:MtM X "list.append" ZjV:=by
  intro pins s σ H x vs v us Q I rx rv h
  obtain ⟨l,xs,y,rfl,rfl,hH,hz,q⟩:=h
  cases rx
  obtain ⟨u,rfl,ru⟩:=rv.one
  obtain ⟨z,its,n,r,hl,e⟩:=I.lstM hH
  refine call_meets F.slot_list_append ⟨_,e,rfl⟩ F.entry_list_append (F.args_list_append_2 _ _) (PySem.list_append l its.toArray n u (by rw[Qe]; omega)) ⟨e,?_⟩
  refine ⟨.non,_,I.lset (its':=its++[u]) hH e (by simp) (r.append (.cons ru .nil)) ?_,rfl,q⟩
  rw[Qb,List.length_singleton]
  omega
def ZmX:V->List V->Hp->VK->Prop:=λx vs H Q=>∃l b xs zs,x = .ref l/\vs=[.ref b]/\H l=some (.lst xs)/\H b=some (.lst zs)/\xs.length+zs.length<=sizeLine/\Q .non (upd H l (.lst (xs++zs)))
theorem ZjW:MtM X "list.extend" ZmX:=by
  intro pins s σ H x vs v us Q I rx rv h
  obtain ⟨l,b,xs,zs,rfl,rfl,hH,hB,hz,q⟩:=h
  cases rx
  obtain ⟨u,rfl,ru⟩:=rv.one
  cases ru
  obtain ⟨z,its,n,r,hl,e⟩:=I.lstM hH
  obtain ⟨z2,its2,n2,r2,hl2,e2⟩:=I.lstM hB
  have hsz:its.toArray.size+its2.toArray.size<=sizeLine:=by rw[Qe,Qe]; omega
  have hlong:¬(!its.toArray.isEmpty&&Builtin.List.listTooLong (its.toArray.size+its2.toArray.size))=true:=by
    rw[Zlp hsz,Bool.and_false]
    exact Qu
  refine call_meets F.slot_list_extend ⟨_,e,rfl⟩ F.entry_list_extend (F.args_list_extend_2 _ _)
    (AutoSeq1.list_extend_list_list_0 l its.toArray n b its2.toArray n2 hlong (by rw[Qe]; omega) ⋯) ⟨e,e2,?_⟩
  refine ⟨.non,_,I.lset (its':=its++its2) hH e (by simp) (r.append r2) ?_,rfl,q⟩
  rw[Qb]
  omega
def Zqd:R2:=λx y H Q=>∃l b xs zs,x = .ref l/\y = .ref b/\H l=some (.lst xs)/\H b=some (.lst zs)/\xs.length+zs.length<=sizeLine/\∀p,H p=none->Q (.ref p) (upd H p (.lst (xs++zs)))
theorem Zit:OpR X (binaryOp .Add) Zqd:=by
  intro pins s σ H x y v u Q I rx ry h
  obtain ⟨l,b,xs,zs,rfl,rfl,hH,hB,hz,q⟩:=h
  cases rx
  cases ry
  obtain ⟨z,its,n,r,hl,e⟩:=I.lstM hH
  obtain ⟨z2,its2,n2,r2,hl2,e2⟩:=I.lstM hB
  refine PySem.P.add_list e e2 ?_ (by rw[Qe,Qe]; omega)
  have ea:its.toArray++its2.toArray=(its++its2).toArray:=by simp
  rw[ea]
  exact ⟨.ref _,_,I.lnew (t':=s.toks) (r.append r2) (by rw[Qb]; omega),rfl,q _ I.fresh⟩
end
section
variable{prog:Program}{w:World}{A:Around}{E:Value->Shared->Prop}{s:Shared}
end
section
variable{X:Cx}
end
end L2
namespace Att
open PySem PySem.W PySem.Calls PyProof.Rows
theorem ZeU{P:Params}{h:Heap}:∀(ns:List Int) (vs:List Value),WellAll P h vs (ns.map WData.int)->IntsAre vs ns:=by
  intro ns
  induction ns with
  | nil =>
    intro vs w
    rw[List.map_nil] at w
    cases w
    exact .nil
  | cons n ns ih =>
    intro vs w
    rw[Uj] at w
    cases w with
    | cons a b =>
      cases a
      exact .cons _ _ (ih _ b)
theorem script_of{l:OpenLaw}{n:Nat}(hn:l.most=some n){P:Params}{h:Heap}{args:List WData}{vals:List Value}
    (hpre:l.row.toRowW.claim.pre args=true) (hwl:WellAll P h vals args) :
    ∃a vs ns,vals=[Value.ref a]/\args=[WData.list (ns.map WData.int)]/\h.get? a=some { cls:=.type "list", data:=.seq vs.toArray }/\IntsAre vs ns/\ns.length<=n:=by
  have hsh:WShape.hasAll [] args [.list .int]=true:=(pre_splitW hpre).1
  have hc:l.pre.holds [] { args:=args }=true:=(pre_splitW hpre).2
  obtain ⟨d,r,rfl,h1,h2⟩:=hasAllW_cons hsh
  obtain rfl:=hasAllW_nil h2
  obtain ⟨xs,rfl,h3⟩:=hasW_list h1
  obtain ⟨ns,rfl⟩:=items_int h3
  have hlen:ns.length<=n:=by
    unfold OpenLaw.pre at hc
    have h4:(WTm.not (.lt (.lit (.int (n:Int))) (.len (.arg 0)))).holds [] { args:=[.list (ns.map .int)] }=true:=by
      have h4:=(holds_andW hc).1
      rw[hn] at h4
      exact h4
    have h5:=condW_of h4 (w_not (w_lt w_lit (w_len_list (w_arg rfl))))
    rw[Q1] at h5
    refine Nat.le_of_not_lt λq=>?_
    have q':(n:Int)<((ns.length:Nat):Int):=by omega
    first
      | (rw[decide_eq_true q'] at h5; exact absurd h5 ∅)
      | (simp at h5; omega)
  cases hwl with
  | cons w1 w2 =>
    cases w2
    cases w1 with
    | list ho hall=>exact ⟨_,_,ns,rfl,rfl,ho,ZeU ns _ hall,hlen⟩
theorem post_true(l:OpenLaw)(args:List WData):l.row.toRowW.claim.post args (.bool true) args=true :=
  postW_of (r:=l.row.toRowW) (X:=(true==true))
    (show WShape.has [] (.bool true) .bool=true by first | rfl | decide | simp[WShape.has,WShape.arms,WShape.armsAll])
    (show (WTm.eq .res (.lit (.bool true))).value [] { args:=args,res:=some (.bool true),after:=args }=some (.bool (true==true)) from w_eq_bool (w_res rfl) w_lit) rfl
theorem attach_call{l:OpenLaw}{n:Nat}{q:Program}{loose:List Str}{XP:(Str->Option Value)->Heap->Prop}{YP:World->Heap->Prop}{d:DefRec}
    (hn:l.most=some n) (hdf:d.params.defaults=[])
    (call:∀(w:World) (s₀ s₁:Shared) (mg mb:Str->Option Value) (fa:Addr) (o:Obj) (pm cd doc:Value) (a:Addr) (vs:List Value) (ns:List Int),
      Ground q loose [] XP w s₀ mg mb s₁.heap->YP w s₁.heap →
      s₁.heap.get? fa=some o->o.data = .func (docDef d.name d.params d.body d.scope pm cd doc)->s₁.heap.CodeRec cd d.name->mg d.name=some (.ref fa) →
      s₁.heap.get? a=some { cls:=.type "list", data:=.seq vs.toArray }->IntsAre vs ns->ns.length<=n->s₁.gens=#[] →
      codeAny (model l.prog w) callerA (.call (.ref fa) ⟨[.ref a],[]⟩) (λr s'=>r = .ok (.ret (.bool true))/\OldK s₁.heap s'.heap/\s'.os=s₁.os/\AllBare s'.gens) s₁) :
    WalkO q loose XP YP l.row.toRowW d [] (λf vs=>PySem.call f vs):=by
  intro w s₀ s₁ mg mb G Y fa o pm cd doc dV kV ho hd hcd hD hmg hg args vals as hpre hlay hrd hwl hlo
  obtain rfl:dV = .none:=Dflts.none hD hdf
  obtain rfl:kV = .none:=Dflts.noKw hD
  obtain ⟨a,vs,ns,rfl,rfl,hobj,hints,hlen⟩:=script_of hn hpre hwl
  refine enter_call (codeAny_mono (call w s₀ s₁ mg mb fa o pm cd doc a vs ns G Y ho (fd_plain hd) hcd hmg hobj hints hlen hg) λr s' hq=>?_)
  obtain ⟨rfl,h2,h3,h4⟩:=hq
  exact ⟨.inl ⟨.bool true,.bool true,[],rfl,λ_=>rfl,.bool true,post_true l _,λ_=>⟨List.Pairwise.nil,λ_ hm=>(nomatch hm)⟩⟩,h2,h3,h4⟩
section
variable{prog:Program}{w:World}{A:Around}{E:Value->Shared->Prop}{s:Shared}{K:Frag}
def ZpQ(h:Heap)(L d:Addr):List (Addr×Obj):=(List.range h.objs.size).filterMap λa=>if a=L\/a=d then none else (h.get? a).map λo=>(a,o)
end
end Att
namespace L2
open PySem PySem.Spec PyProof.Rows
theorem Zg1:∀ {vs:List Value} {ns:List Int},IntsAre vs ns->Vals (ns.map V.int) vs
  | _,_,.nil => .nil
  | _,_,.cons n t h => .cons ⟨t,rfl⟩ (Zg1 h)
def Zo3(H:Hp):Prop:=∀b,H b=none\/∃o xs,H b=some (.frz o (.lst xs))
theorem Ziu{P:Program}{w:World}{K:PySem.W.Frag}{mg mb:Str->Option Value}{CX:CXT}{k:Nat}{fa a:Addr}{fd:FuncData}{x:Str}{sp:Sp}{s₁:Shared}{vs:List Value}{ns:List Int}
    (KX:K.In s₁.heap) (hns:s₁.heap.Ns mainGlobals mg) (hb:s₁.heap.Ns builtinsNs mb) (hbb:∀x:Str,x ≠ "__name__" -> mb x=bootBuiltins x) (hlim:s₁.heap.NoLimit) (hg:s₁.gens=#[])
    (ha:s₁.heap.get? a=some { cls:=.type "list", data:=.seq vs.toArray }) (hi:IntsAre vs ns) (hl:ns.length<=sizeLine) (hr:Room k callerA)
    (F:∀base:Heap,K.In base->base.Ns mainGlobals mg->FnOk P w K mg base CX k fa fd [x] sp) (hbind:∀(s:Shared) (u:Value),BindsTo s fd ⟨[u],[]⟩ [(x,u)])
    (hsp:∀H:Hp,Zo3 H->SqL K H a (ns.map V.int)->sp [.ref a] H (λv _=>v = .bl true) λ_ _ _=>False)
    (hCX:∀H e s',CX [] H s₁ (λ_ _ _=>False) e s'->False) :
    codeAny (model P w) callerA (.call (.ref fa) ⟨[.ref a],[]⟩) (λr s'=>r = .ok (.ret (.bool true))/\OldK s₁.heap s'.heap/\s'.os=s₁.os/\AllBare s'.gens) s₁:=by
  have rv:=Zg1 hi
  have lenV:=hi.length
  have core:∀H:Hp,Zo3 H->SqL K H a (ns.map V.int)->HOk P w H s₁.heap->(∀b,H b≠none->b=a)->(H a≠none->K.lookup a=none) →
      codeAny (model P w) callerA (.call (.ref fa) ⟨[.ref a],[]⟩) (λr s'=>r = .ok (.ret (.bool true))/\OldK s₁.heap s'.heap/\s'.os=s₁.os/\AllBare s'.gens) s₁:=by
    intro H hO hS hok hA hK
    have base_of:∀ {b:Addr} {o:Obj},s₁.heap.get? b=some o->H b=none->(Zlg s₁.heap H).get? b=some o:=λe n=>Zlh e n
    have noA:∀ {b:Addr} {o:Obj} {es:Array DictEntry} {ep:Nat},s₁.heap.get? b=some o->o.data = .dict es ep->H b=none:=fun {b o es ep} e d=>by
      cases q:H b with
      | none=>rfl
      | some u =>
        have e':b=a:=hA b (by rw[q]; simp)
        subst e'
        rw[ha] at e; cases e
        have d':Data.seq vs.toArray _=Data.dict es ep:=d
        cases d'
    have nsK:∀ {b:Addr} {m:Str->Option Value},s₁.heap.Ns b m->(Zlg s₁.heap H).Ns b m:=fun {b m} ⟨o,es,ep,e,d,r⟩=>⟨o,es,ep,base_of e (noA e d),d,r⟩
    have hKb:K.In (Zlg s₁.heap H):=λb o e=>base_of (KX b o e) (by
      cases q:H b with
      | none=>rfl
      | some u =>
        have e':b=a:=hA b (by rw[q]; simp)
        subst e'
        rw[hK (by rw[q]; simp)] at e; cases e)
    have hM:Mod K mg (Zlg s₁.heap H):=⟨hKb,nsK hns,⟨mb,nsK hb,hbb⟩,let ⟨mc,h1,h2⟩:=hlim; ⟨mc,nsK h1,h2⟩⟩
    have e0:Env0 P w K mg (Zlg s₁.heap H) callerA [] s₁ H:=⟨rfl,hM,λb o e=>ZmJ e,Nat.le_of_eq (ZjE _ _),trivial,λb hb=>absurd (show b∈([]:List Addr) from hb) (by simp),hok,.of_eq hg⟩
    refine codeAny_mono ((F _ hKb (nsK hns)).run callerA [] s₁ H ⟨[.ref a],[]⟩ [.ref a] [.ref a] _ _ hr e0 (hbind s₁ (.ref a)) (.cons rfl .nil) (hsp H hO hS)) λr s' h=>?_
    cases r with
    | error e=>exact (hCX H e s' h).elim
    | ok fl =>
      cases fl with
      | next=>exact False.elim h
      | brk=>exact False.elim h
      | cont=>exact False.elim h
      | ret u =>
        obtain ⟨v,H',os,bare,un,hok',r',q⟩:=h
        have q':v = .bl true:=q
        subst q'
        obtain rfl:u=Value.bool true:=r'
        refine ⟨rfl,OldK.of_keep λb o e=>?_,os,bare⟩
        cases q:H b with
        | none=>exact un.keep b o e q (by intro z; exact absurd (show b∈([]:List Addr) from z) (by simp)) (by simp)
        | some u =>
          rcases hO b with z | ⟨ob,xs,z⟩
          · rw[q] at z; cases z
          · have z2:=un.frzs b ob _ z
            obtain ⟨e1,_⟩:=hok b _ z
            obtain ⟨e2,_⟩:=hok' b _ z2
            rw[e] at e1; cases e1
            exact e2
  cases hk:K.lookup a with
  | some o =>
    have e:=KX a o hk
    rw[ha] at e
    cases e
    refine core (λ_=>none) (λ_ => .inl rfl) (.inr ⟨_,vs.toArray,_,hk,rfl,rfl,rfl,by rw[Qe,lenV]; exact hl,by simpa using rv⟩) (λb u z=>by have z':(none:Option HO)=some u:=z; cases z') (λb z=>absurd rfl z) λz=>absurd rfl z
  | none =>
    refine core (λb=>if b=a then some (.frz { cls:=.type "list", data:=.seq vs.toArray } (.lst (ns.map V.int))) else none) (λb=>?_) (.inl (.inr ⟨{ cls:=.type "list", data:=.seq vs.toArray },if_pos rfl⟩)) (λb u z=>?_) (λb z=>?_) λ_=>hk
    · by_cases hb:b=a
      · exact .inr ⟨_,_,if_pos hb⟩
      · exact .inl (if_neg hb)
    · by_cases hb:b=a
      · have z':=(if_pos hb).symm.trans z
        cases z'
        subst hb
        exact ⟨ha,by rw[Q1]; exact hl,vs,_,rv,ha⟩
      · have z':=(if_neg hb).symm.trans z
        cases z'
    · by_cases hb:b=a
      · exact hb
      · exact absurd (if_neg hb) z
end L2
namespace L2
open PySem PySem.Spec PyProof.Rows
abbrev KOf{K:PySem.W.Frag}{h:Heap}(_:K.In h):PySem.W.Frag:=K
theorem walk_of{l:PySem.W.OpenLaw}{n k:Nat}{q:Program}{loose:List Str}{XP:(Str->Option Value)->Heap->Prop}{YP:World->Heap->Prop}{d:DefRec}{K:Params->PySem.W.Frag}{CX:World->CXT}{sp:World->Sp}{x:Str}
    (hn:l.most=some n) (hn2:n<=sizeLine) (hdf:d.params.defaults=[]) (hr:Room k callerA)
    (hY:∀(w:World) (h:Heap),YP w h->(K w.params).In h)
    (F:∀(w:World) (mg:Str->Option Value) (fa:Addr) (h:Heap),(K w.params).In h->h.Ns mainGlobals mg->mg d.name=some (.ref fa) →
      ∃fd:FuncData,(∀(s:Shared) (u:Value),BindsTo s fd ⟨[u],[]⟩ [(x,u)]) ∧
        ∀base:Heap,(K w.params).In base->base.Ns mainGlobals mg->FnOk l.prog w (K w.params) mg base (CX w) k fa fd [x] (sp w))
    (hsp:∀(w:World) (H:Hp) (a:Addr) (ns:List Int),ns.length<=n->Zo3 H->SqL (K w.params) H a (ns.map V.int)->sp w [.ref a] H (λv _=>v = .bl true) λ_ _ _=>False)
    (hCX:∀(w:World) (H:Hp) (s:Shared) (e:Value) (s':Shared),CX w [] H s (λ_ _ _=>False) e s'->False) :
    PySem.W.WalkO q loose XP YP l.row.toRowW d [] (λf vs=>PySem.call f vs):=by
  refine Att.attach_call hn hdf λw s₀ s₁ mg mb fa o pm cd doc a vs ns G Y ho hd hcd hmg hobj hints hlen hg=>?_
  have KX:=hY w _ Y
  obtain ⟨fd,hb,hF⟩:=F w mg fa _ KX G.T.g hmg
  exact Ziu KX G.T.g G.T.b G.T.builtins G.T.nolimit hg hobj hints (Q0 hlen hn2) hr hF hb (λH hO hS=>hsp w H a ns hlen hO hS) λH e s'=>hCX w H s₁ e s'
end L2
/- THE LAST THEOREM (shape; LID,My.* are yours):
   My.Adr: a structure of the addresses that your layer names (classes,functions); My.Txt K t: a structure (Prop) of the equations over K;
   My.txt_mk:{K} {implicit addresses ..} (e1:nsIn K mainGlobals "law" = some (some (.ref f))) (e2:K.lookup f=some ⟨oc,od,.func (fnOf "law" "law" params body scope dV kV doc pm an cdv ct),sl⟩) (e3:codeIn K cdv "law" = true) ..:∃t,My.Txt K t
set_option maxRecDepth 100000 in
set_option maxHeartbeats 0 in
theorem PySem.Challenge.cw_LID_holds : PySem.Challenge.rw_LID.Holds := by
  w_on; o_law; k_head; (case hw=>w_witness2)
  k_fill
  refine L2.walk_of (l:=PySem.Challenge.rw_LID) (n:=63) (k:=40) (x := "script") (CX:=λw => ..) (sp:=λ_=>My.sp_law) rfl ∅ rfl ⟨rfl,∅,∅⟩ (λw h Y=>PySem.W.kIn_of Y) ?F ?S ?C
  case F =>
    intro w mg fa h KX G hmg
    have T:∃t,My.Txt (L2.KOf KX) t:=by
      dsimp only[L2.KOf]                          -- K must stand as «<heap const> w.params» for k_is
      refine' My.txt_mk ?e1 ?e2 ?e3 ..
      (case e1=>PySem.W.k_is)                    -- in the order: a name -> its address -> its object -> its parts
      (case e2=>PySem.W.k_is)
      ..
    obtain ⟨t,T⟩:=T
    have e0:=hmg.symm.trans (PySem.W.mg_of KX G T.law)
    cases e0                                       -- fa is the law's own address
    exact ⟨_,λs u => .of_eq rfl,λbase kb nb=>My.law_fn T kb nb⟩     -- if «.of_eq rfl» comes too early: refine' ⟨_,?b,λbase kb nb=>My.law_fn T kb nb⟩; exact λs u => .of_eq rfl
  case S=>exact λw H a ns hl hO hS => ..
  case C=>exact ..
(the tactic k_is has no namespace: write k_is) -/
namespace L2
open PySem PySem.Spec PyProof.Rows
def Za4(s:Stmt)(j:Nat):Stmt:=match s with
  | .ClassDef _ _ _ body _ _ _ _ _ _ _=>body.getD j (.Pass ⟨0,0,0,0⟩)
  | _ => .Pass ⟨0,0,0,0⟩
def Zb7(s:Stmt):Arguments:=match s with
  | .FunctionDef _ a _ _ _ _ _ _ _ _=>a
  | _=>{ posonlyargs:=[],args:=[],vararg:=none,kwonlyargs:=[],kw_defaults:=[],kwarg:=none,defaults:=[] }
def Zbt(s:Stmt):List Stmt:=match s with
  | .FunctionDef _ _ b _ _ _ _ _ _ _=>b
  | _=>[]
def Zah(s:Stmt):Scope:=match s with
  | .FunctionDef _ _ _ _ _ _ sc _ _ _=>sc
  | _=>{ kind:=.function,names:=[],isGenerator:=false,isCoroutine:=false }
abbrev CX0:CXT:=λ_ _ _ _ _ _=>False
abbrev E0:XK:=λ_ _ _=>False
theorem ZmY{X:Cx}:ZgV CX0 X E0:=λ_ _ _ _ _ _ _ h=>h.elim
structure Fun (K:PySem.W.Frag) (x qual:Str) (st:Stmt) (f:Addr) (fd:FuncData):Prop where
  ex:∃(oc:Value) (od:Option Addr) (kV doc pm:Value) (an:Option Addr) (cdv ct:Value) (osl:Array (Option Value)),
    fd=PySem.W.fnOf x qual (Zb7 st) (Zbt st) (Zah st) .none kV doc pm an cdv ct/\K.lookup f=some ⟨oc,od,.func fd,osl⟩/\PySem.W.codeIn K cdv qual=true
  kp:PySem.W.keepIn K (.ref f)=true
section
variable{P:Program}{w:World}{K:PySem.W.Frag}{mg:Str->Option Value}{base:Heap}
theorem Fun.ok{x qual:Str}{st:Stmt}{f:Addr}{fd:FuncData}{N ps:List Str}{k:Nat}{sp:Sp}(F:Fun K x qual st f fd)(S:FnScope N ps (Zah st))(len:∀vs H Q E,sp vs H Q E->vs.length=ps.length)
    (hbody:∀(cdv:Value) (A:Around) (outer:List Env) (s:Shared) (H:Hp) (vs:List V) (Q:VK) (E:XK),Room k (A.deeper (envOfC qual (Zah st) s.heap.objs.size f cdv))->sp vs H Q E →
      ∃t,PSs (ZmT CX0 P w K mg base N qual (Zah st) f cdv A outer s H E).nox (Zbt st) t/\t { nx:=λ_ H'=>Q .non H',rt:=Q } (start N vs) H):FnOk P w K mg base CX0 (k+1) f fd ps sp:=by
  obtain ⟨oc,od,kV,doc,pm,an,cdv,ct,osl,rfl,lk,hcd⟩:=F.ex
  refine ZmU lk hcd S len λA outer s H vs Q E hr hsp=>?_
  obtain ⟨t,h,q⟩:=hbody cdv A outer s H vs Q E hr hsp
  exact ⟨t,h.nox,q⟩
theorem Fun.binds{x qual:Str}{st:Stmt}{f:Addr}{fd:FuncData}{ps:List Str}(F:Fun K x qual st f fd)
    (h:∀(kV doc pm:Value) (an:Option Addr) (cdv ct:Value) (us:List Value),us.length=ps.length->bindArgs (PySem.W.fnOf x qual (Zb7 st) (Zbt st) (Zah st) .none kV doc pm an cdv ct) ⟨us,[]⟩=pure (ps.zip us)):Binds K fd ps []:=by
  obtain ⟨oc,od,kV,doc,pm,an,cdv,ct,osl,rfl,lk,hcd⟩:=F.ex
  exact .all (h kV doc pm an cdv ct)
theorem ZjX{x qual:Str}{st:Stmt}{f:Addr}{oc:Value}{od an:Option Addr}{osl:Array (Option Value)}{kV doc pm cdv ct:Value}(l:K.lookup f=some ⟨oc,od,.func (PySem.W.fnOf x qual (Zb7 st) (Zbt st) (Zah st) .none kV doc pm an cdv ct),osl⟩)
    (c:PySem.W.codeIn K cdv qual=true) (k:PySem.W.keepIn K (.ref f)=true):Fun K x qual st f (PySem.W.fnOf x qual (Zb7 st) (Zbt st) (Zah st) .none kV doc pm an cdv ct):=⟨⟨oc,od,kV,doc,pm,an,cdv,ct,osl,rfl,l,c⟩,k⟩
end
theorem ZdF{n:Nat}(h:n<=1000):n<sizeLine:=Qs h ∅
section
variable{X:Cx}
theorem pv(i:Nat){x:Str}{pos:Pos}(hN:X.N[i]?=some x:=by rfl)(hv:Vis X.env.scope x:=by first | exact Or.inl rfl | exact Or.inr (Or.inl rfl) | exact Or.inr (Or.inr rfl))(hd:(x==("__debug__" : Str))=false:=by decide)
    (hcd:(x==("__classdict__" : Str))=false:=by decide):PE X (.Name x pos) (Zo5 i):=Zn3 hN hv hd hcd
end
theorem Zc7{A B:Prop}(h:B):if false=true then A else B:=by
  rw[if_neg Qu]
  exact h
theorem ZjY{A B:Prop}(h:A):if true=true then A else B:=by
  rw[if_pos rfl]
  exact h
theorem Zqe{c A B:Prop}[Decidable c](h1:c->A)(h2:¬c->B):if c then A else B:=by
  by_cases h:c
  · rw[if_pos h]
    exact h1 h
  · rw[if_neg h]
    exact h2 h
def Same(H H':Hp):Prop:=∀b o,H b=some o->H' b=some o
theorem Same.refl(H:Hp):Same H H:=λ_ _ h=>h
theorem Same.trans{H H1 H2:Hp}(a:Same H H1)(b:Same H1 H2):Same H H2:=λc o h=>b c o (a c o h)
theorem Same.free{H H':Hp}(e:Same H H'){l:Addr}(h:H' l=Option.none):H l=Option.none:=by
  cases q:H l with
  | none=>rfl
  | some o =>
    rw[e l o q] at h
    cases h
theorem Same.seq{K:PySem.W.Frag}{H H':Hp}{a:Addr}{xs:List V}(e:Same H H')(h:SqL K H a xs):SqL K H' a xs:=by
  rcases h with (h | ⟨o,h⟩) | h
  · exact .inl (.inl (e _ _ h))
  · exact .inl (.inr ⟨o,e _ _ h⟩)
  · exact .inr h
end L2
set_option maxHeartbeats 4000000
namespace L2
open PySem PySem.Spec PyProof.Rows
theorem Zdk{k:Int}{n:Nat}(h:k.natAbs<2^n):Builtin.Int.intBits k<=n:=by
  unfold Builtin.Int.intBits
  split
  · exact Qh _
  · rename_i h0
    have hk:k.natAbs≠0:=by
      intro z
      apply h0
      have:k=0:=by omega
      simp[this]
    have:k.natAbs.log2<n:=(Nat.log2_lt hk).mpr h
    omega
theorem ZhA:10^150<2^600:=by decide +kernel
theorem Zba{i j:Int}(h:i.natAbs<=10^150)(h':j.natAbs<=10^150):IntMulOk i j :=
  .of_bits (Q0 (Zdk (n:=600) (Qs h ZhA)) ∅) (Q0 (Zdk (n:=600) (Qs h' ZhA)) ∅)
theorem ZmZ{j:Int}(h:j.natAbs<=10^150):j.natAbs.log2<9000:=by
  rcases Nat.eq_zero_or_pos j.natAbs with z | z
  · rw[z]; decide
  · exact Nat.lt_trans ((Nat.log2_lt (Up z)).mpr (Qs h ZhA)) ∅
section
variable{X:Cx}
theorem ZaA:OpR X (binaryOp .Mult) (rI IntMulOk λi j => .int (i*j)):=opI λ_ _ _ _ _ _ _ hc q=>mul_int q hc
theorem Zf1:OpR X (binaryOp .FloorDiv) (rI (λ_ j=>j≠0/\j.natAbs<=10^150) λi j => .int (i.fdiv j)):=opI λ_ _ _ _ _ _ _ hc q=>floordiv_int hc.1 q (.inl (PyProof.noPylong_of_log2 (ZmZ hc.2)))
theorem Zg2{x:Str}{T:String}{pos:Pos}(hg:Gl X x)(hm:X.mg x=none)(hv:bootBuiltins x=some (.type T))(hn:x ≠ "__name__" := by decide) (hd:(x==("__debug__" : Str))=false:=by decide):PE X (.Name x pos) (tC (.ty T)):=ZmL hg hm hv rfl hn hd
theorem Zcn:CallR X (.builtin "isinstance") (λxs H Q=>∃x T t b,xs=[x,.ty T]/\Zir X.K H x t/\PySem.W.kitOne X.K t (.type T)=some b/\Q (.bl b) H):=by
  intro pins s σ H xs us Q I r h
  obtain ⟨x,T,t,b,rfl,ty,hk,q⟩:=h
  obtain ⟨u,w',rfl,r1,r2⟩:=ZjM r
  cases r2
  exact ZjR I r1 ty hk λtk=>⟨.bl b,H,I.tok _,rfl,q⟩
end
theorem ZdG(K:PySem.W.Frag)(t:Value)(h:(t==t)=true:=by rfl):PySem.W.kitOne K t t=some true:=by
  unfold PySem.W.kitOne
  rw[if_pos h]
theorem Zlq(K:PySem.W.Frag){t T:String}{b:Bool}(h0:((Value.type t)==(Value.type T))=false)(h1:PySem.W.kitMeta T=true)(h:(PySem.fastBuiltinMro t).map (·.contains (Value.type T))=some b):PySem.W.kitOne K (.type t) (.type T)=some b:=by
  unfold PySem.W.kitOne PySem.W.kitCls
  rw[if_neg (by rw[h0]; exact Qu)]
  show (if PySem.W.kitMeta T=true then PySem.W.subIn K (Value.type t) (Value.type T) else none)=some b
  rw[if_pos h1]
  exact h
theorem Zeu(K:PySem.W.Frag):PySem.W.kitOne K (.type "int") (.type "bool")=some false:=Zlq K (by decide +kernel) (by decide +kernel) (by decide +kernel)
section
variable{A B:Prop}
theorem Zbq{p:Prop}[Decidable p](h1:p->A)(h2:¬p->B):if decide p=true then A else B:=Zqe (λc=>h1 (of_decide_eq_true c)) λc=>h2 (of_decide_eq_false (Bool.eq_false_iff.mpr c))
theorem Zm0{p:Prop}[Decidable p](h1:¬p->A)(h2:p->B):if (!decide p)=true then A else B:=by
  by_cases h:p
  · rw[decide_eq_true h]; exact Zc7 (h2 h)
  · rw[decide_eq_false h]; exact ZjY (h1 h)
theorem Zbr{a b:Int}(h1:a=b->A)(h2:a≠b->B):if decide (V.int a=V.int b)=true then A else B:=Zbq (λe=>h1 (V.int.inj e)) λe=>h2 λz=>e (by rw[z])
theorem ZcL{a b:Int}(h1:a≠b->A)(h2:a=b->B):if (!decide (V.int a=V.int b))=true then A else B:=Zm0 (λe=>h1 λz=>e (by rw[z])) λe=>h2 (V.int.inj e)
end
theorem Zlr{a b:Int}(h:a=b):decide (V.int a=V.int b)=true:=decide_eq_true (by rw[h])
theorem ZhB(a b:Int):decide (V.int a=V.int b)=decide (a=b):=by
  by_cases h:a=b
  · rw[decide_eq_true h,Zlr h]
  · rw[decide_eq_false h,decide_eq_false λz=>h (V.int.inj z)]
structure Here (K:PySem.W.Frag) (mg:Str->Option Value) (x:Str) (st:Stmt):Prop where
  ex:∃(f:Addr) (fd:FuncData),Fun K x x st f fd/\mg x=some (.ref f)
structure Has (P:Program) (w:World) (K:PySem.W.Frag) (mg:Str->Option Value) (base:Heap) (x:Str) (k:Nat) (ps:List Str) (sp:Sp):Prop where
  ex:∃(f:Addr) (fd:FuncData),FnOk P w K mg base CX0 k f fd ps sp/\mg x=some (.ref f)/\PySem.W.keepIn K (.ref f)=true/\Binds K fd ps []
section
variable{P:Program}{w:World}{K:PySem.W.Frag}{mg:Str->Option Value}{base:Heap}{x:Str}{st:Stmt}{k j:Nat}{ps:List Str}{sp:Sp}
theorem Has.mono(h:Has P w K mg base x j ps sp)(e:j<=k):Has P w K mg base x k ps sp :=
  let ⟨f,fd,a,b,c,d⟩:=h.ex
  ⟨f,fd,a.mono e,b,c,d⟩
theorem Here.has(h:Here K mg x st)(b:∀f fd,Fun K x x st f fd->Binds K fd ps [])(ok:∀f fd,Fun K x x st f fd->FnOk P w K mg base CX0 k f fd ps sp):Has P w K mg base x k ps sp :=
  let ⟨f,fd,F,m⟩:=h.ex
  ⟨f,fd,ok f fd F,m,F.kp,b f fd F⟩
theorem here_mk{h:Heap}{f:Addr}{oc:Value}{od an:Option Addr}{osl:Array (Option Value)}{kV doc pm cdv ct:Value}(X:K.In h)(G:h.Ns mainGlobals mg)(a:PySem.W.nsIn K mainGlobals x=some (some (.ref f)))
    (l:K.lookup f=some ⟨oc,od,.func (PySem.W.fnOf x x (Zb7 st) (Zbt st) (Zah st) .none kV doc pm an cdv ct),osl⟩)
    (c:PySem.W.codeIn K cdv x=true) (k:PySem.W.keepIn K (.ref f)=true):Here K mg x st:=⟨f,_,ZjX l c k,PySem.W.mg_of X G a⟩
end
theorem Zan{X:Cx}{x:Str}{k:Nat}{ps:List Str}{sp:Sp}{e:Expr}{es:List Expr}{t:TA}{p pos:Pos}(h:Has X.prog X.w X.K X.mg X.base x k ps sp)(hr:Room k X.A)(hg:Gl X x)(ha:PA X (e::es) t)(hdb:(x==("__debug__" : Str))=false:=by decide)
    (he:starEach (e::es) X.env=(false,eval e X.env)::starEach es X.env:=by rfl) (hpl:(backTo pos (starEach es X.env)).any (·.1)=false:=by rfl):PE X (.Call (.Name x p) (e::es) [] pos) (Zob sp [] E0 t):=by
  obtain ⟨f,fd,F,hm,hk,hb⟩:=h.ex
  exact ZmR F hr hg hm hk hb .nil ZmY ha hdb he hpl
theorem Zag{H:Hp}{p:Addr}(h:H p=none)(o:HO):Same H (upd H p o):=λb u q=>by rw[Zav (ZaD q h)]; exact q
theorem Same.tup{K:PySem.W.Frag}{H H':Hp}{a:Addr}{xs:List V}(e:Same H H')(h:SqT K H a xs):SqT K H' a xs:=by
  rcases h with (h | ⟨o,h⟩) | h
  · exact .inl (.inl (e _ _ h))
  · exact .inl (.inr ⟨o,e _ _ h⟩)
  · exact .inr h
end L2
namespace L2
open PySem PySem.Spec PyProof.Rows
def Zi4(cells:List (Str×Addr)):List (Str×NameKind)->List (Str×Addr)->List (Str×Addr)
  | [],cs=>cs
  | (n,k)::r,cs=>Zi4 cells r (if k=NameKind.free then (match cells.lookup n with | some a=>(n,a)::cs | none=>cs) else cs)
theorem Zf2{cells:List (Str×Addr)}:∀(ns:List (Str×NameKind)) (cs:List (Str×Addr)),(∀p∈cs,cells.lookup p.1=some p.2)->∀p∈Zi4 cells ns cs,cells.lookup p.1=some p.2
  | [],_,h=>h
  | (n,k)::r,cs,h=>by
    refine Zf2 r _ λp hp=>?_
    by_cases hk:k=NameKind.free
    · rw[if_pos hk] at hp
      cases e:cells.lookup n with
      | none=>rw[e] at hp; exact h p hp
      | some a =>
        rw[e] at hp
        rcases Q9.mp hp with rfl | hp
        · exact e
        · exact h p hp
    · rw[if_neg hk] at hp
      exact h p hp
theorem Ziv{cells:List (Str×Addr)}:∀(ns:List (Str×NameKind)) (cs:List (Str×Addr)),∀p∈cs,p∈Zi4 cells ns cs
  | [],_,_,h=>h
  | (n,k)::r,cs,p,h=>by
    refine Ziv r _ p ?_
    by_cases hk:k=NameKind.free
    · rw[if_pos hk]
      cases e:cells.lookup n with
      | none=>exact h
      | some a=>exact Wh _ h
    · rw[if_neg hk]; exact h
theorem Zf3{cells:List (Str×Addr)}{x:Str}:∀(ns:List (Str×NameKind)) (cs:List (Str×Addr)),(x,NameKind.free)∈ns->(∃c,cells.lookup x=some c)->∃c,(x,c)∈Zi4 cells ns cs
  | (n,k)::r,cs,h,hc=>by
    rcases Q9.mp h with e | h
    · cases e
      obtain ⟨c,hc⟩:=hc
      refine ⟨c,Ziv r _ _ ?_⟩
      rw[if_pos rfl,hc]
      exact Wa
    · exact Zf3 r _ h hc
theorem Zco{β:Type}{x:Str}{c:β}:∀ {l:List (Str×β)},(x,c)∈l->∃d,l.lookup x=some d
  | (n,a)::r,h=>by
    by_cases hx:x=n
    · exact ⟨a,by simp[Wv,hx]⟩
    · rcases Q9.mp h with e | h
      · cases e; exact absurd rfl hx
      · obtain ⟨d,hd⟩:=Zco h
        refine ⟨d,?_⟩
        have hb:(x==n)=false:=beq_eq_false_iff_ne.mpr hx
        simp only[Wv,hb]
        exact hd
theorem ZfQ{env:Env}{α:Type}(k:List (Str×Addr)->Sem α):∀(ns:List (Str×NameKind)) (cs:List (Str×Addr)),(∀y,(y,NameKind.free)∈ns->∃c,env.cells.lookup y=some c) →
    (forIn ns cs (λ(x:Str×NameKind) (r:List (Str×Addr))=>if (x.2==NameKind.free)=true then (do let a ← cellOf env x.1; pure (ForInStep.yield ((x.1,a)::r))) else pure (ForInStep.yield r)):Sem _)=pure (Zi4 env.cells ns cs)
  | [],cs,_=>rfl
  | (n,kd)::r,cs,h=>by
    have ih:=λcs=>ZfQ k r cs λy hy=>h y (Wh _ hy)
    rw[List.forIn_cons]
    by_cases hk:kd=NameKind.free
    · subst hk
      obtain ⟨c,hc⟩:=h n Wa
      show ((cellOf env n >>= λa=>pure (ForInStep.yield ((n,a)::cs))) >>= _:Sem _)=_
      have hce:cellOf env n=pure c:=by unfold cellOf; rw[hc]
      rw[hce]
      show (forIn r ((n,c)::cs) _:Sem _)=_
      rw[ih]
      show _=pure (Zi4 env.cells r (if NameKind.free=NameKind.free then (match env.cells.lookup n with | some a=>(n,a)::cs | none=>cs) else cs))
      rw[if_pos rfl,hc]
    · have hb:(kd==NameKind.free)=false:=by simpa using hk
      show ((if (kd==NameKind.free)=true then (do let a ← cellOf env n; pure (ForInStep.yield ((n,a)::cs))) else pure (ForInStep.yield cs)) >>= _:Sem _)=_
      rw[hb,if_neg Qu]
      show (forIn r cs _:Sem _)=_
      rw[ih]
      show _=pure (Zi4 env.cells r (if kd=NameKind.free then _ else cs))
      rw[if_neg hk]
theorem ZfR{scope:Scope}{env:Env}(h:∀y,(y,NameKind.free)∈scope.names->∃c,env.cells.lookup y=some c):closureFor scope env=pure (Zi4 env.cells scope.names []):=by
  unfold closureFor
  have:=ZfQ (env:=env) (α:=List (Str×Addr)) pure scope.names [] h
  show (forIn scope.names [] (λ(x:Str×NameKind) (r:List (Str×Addr))=>if (x.2==NameKind.free)=true then (do let a ← cellOf env x.1; pure (ForInStep.yield ((x.1,a)::r))) else pure (ForInStep.yield r)) >>= λcs=>pure cs:Sem _)=_
  rw[this]
  rfl
theorem Ziw{scope:Scope}{env:Env}(h:(scope.names.all λy=>!(y.2==NameKind.free)||(env.cells.lookup y.1).isSome)=true):∀y,(y,NameKind.free)∈scope.names->∃c,env.cells.lookup y=some c:=λy hy=>by
  have e:(env.cells.lookup y).isSome=true:=List.all_eq_true.mp h (y,NameKind.free) hy
  exact Option.isSome_iff_exists.mp e
def CapsOk(X:Cx)(scope:Scope):List (Nat×Str)->Prop
  | []=>True
  | p::r=>(X.N[p.1]?=some p.2/\scope.names.lookup p.2=some .free/\(X.env.kindOf p.2=some .cell\/X.env.kindOf p.2=some .free))/\CapsOk X scope r
theorem CapsOk.mem{X:Cx}{scope:Scope}:∀ {caps:List (Nat×Str)},CapsOk X scope caps->∀p∈caps,X.N[p.1]?=some p.2/\scope.names.lookup p.2=some .free/\(X.env.kindOf p.2=some .cell\/X.env.kindOf p.2=some .free)
  | [],_,_,h=>nomatch h
  | _::_,⟨h1,h2⟩,p,h=>by
    rcases Q9.mp h with rfl | h
    · exact h1
    · exact h2.mem p h
def ZdH(X:Cx)(scope:Scope)(N:List Str)(s₀:Shared)(H₀:Hp)(C:Addr)(fp:List Addr):Cx where
  prog:=X.prog
  w:=X.w
  K:=X.K
  mg:=X.mg
  base:=X.base
  A:=X.A
  N:=N
  s₀:=s₀
  H₀:=H₀
  env:=compEnvC scope (Zi4 X.env.cells scope.names []) C X.env
  outer:=X.stack
  stack:=X.stack
  ex:=fp
  fn:=λ_=>false
  calm:=X.calm
  pn:=[]
  xe:=λ_ _=>False
def st0(k:Nat)(caps:List (Nat×Str))(σ:St):St:=List.replicate k none++caps.map λp=>(σ[p.1]?).join
theorem Zg3{prog:Program}{w:World}{A:Around}{R:Result->Shared->Prop}{s:Shared}{elt target iter:Expr}{scope:Scope}{pos:Pos}{it acc:Value}{env:Env}(I:Nat->Shared->Prop)
    (turn:∀n s,I n s->wpAny (model prog w) A (pyNext it) (λr s₁=>match r with
      | none=>R (.ok .next) s₁
      | some v=>wpAny (model prog w) A (letOwnedTupleGo target it v) (λ_ s₁=>wpAny (model prog w) A (assign target env v) (λ_ s₂=>wpAny (model prog w) A (eval elt env) (λx s₃ =>
          wpAny (model prog w) A (call (.builtin "list.append") [acc,x]) (λ_ s₄=>∃m,m<n/\I m s₄) (λ_ _=>False) s₃)
          (λ_ _=>False) s₂) (λ_ _=>False) s₁) (λ_ _=>False) s₁) (λ_ _=>False) s)
    (n:Nat) (h:I n s) :
    codeAny (model prog w) A (.compLoop (.ListComp elt [⟨target,iter,[],0⟩] scope pos) 0 it acc env) R s:=by
  refine codeAny_loop rfl I (λn s hI=>?_) n h
  show wpAny _ _ ((compTurn (.ListComp elt [⟨target,iter,[],0⟩] scope pos) 0 it acc env).onRaise (λx=>do noteFrame x env; theTreesLotGoes x)) _ _ s
  refine wpAny_noted ?_
  rw[compTurn_list1]
  refine wpAny_bind (wpAny_standAt (wpAny_bind (wpAny_mono (turn n s hI) (λr s₁ h₁=>?_) λ_ _ h'=>False.elim h')))
  cases r with
  | none=>exact wpAny_pure h₁
  | some v =>
    refine wpAny_bind (wpAny_mono h₁ (λ_ s₁ h₁=>?_) λ_ _ h'=>False.elim h')
    exact wpAny_bind (wpAny_mono h₁ (λ_ s₂ h₂=>wpAny_bind (wpAny_bind (wpAny_mono h₂ (λx s₃ h₃=>wpAny_bind (wpAny_mono h₃
      (λ_ s₄ h₄=>wpAny_pure (wpAny_pure ⟨rfl,h₄⟩)) λ_ _ h'=>False.elim h')) λ_ _ h'=>False.elim h'))) λ_ _ h'=>False.elim h')
def Zg4(k:Nat)(caps:List (Nat×Str))(g:TG)(te:TE)(σ:St)(J:It)(H:Hp)(Q:List V->Hp->Prop):Prop :=
  ∃W:Nat->Nat->List V->Hp->Prop,(∃m,W 0 m [] H)/\∀i m ys H',W i m ys H'->ys.length<=sizeLine/\((J.stop i H'/\Q ys H') ∨
    (J.go i H'/\ys.length<sizeLine/\∃N:V->Hp->Prop,(∀v H4,N v H4->∃m',m'<m/\W (i+1) m' (ys++[v]) H4) ∧
      ∀x H2,J.yld i H' x H2->g x (st0 k caps σ) H2 λσ2 H3=>(∀(i:Nat) v,(st0 k caps σ)[i]?=some (some v)->σ2[i]?=some (some v))/\te σ2 H3 N))
def Zof(k:Nat)(caps:List (Nat×Str))(wi:TI)(g:TG)(te:TE):TE:=λσ H Q=>wi σ H λJ H1=>Zg4 k caps g te σ J H1 λys H2=>∀D,H2 D=none->Q (.ref D) (upd H2 D (.lst ys))
section
variable{X:Cx}{tg iter elt:Expr}{scope:Scope}{pos:Pos}{wi:TI}{g:TG}{te:TE}{own:List Str}{caps:List (Nat×Str)}
theorem Zg5{scope:Scope}{env:Env}{x:Str}(hx:scope.names.lookup x=some .free):(relabel scope env).names.lookup x=some .cell\/(relabel scope env).names.lookup x=some .free:=by
  unfold relabel
  show (scope.names.map _).lookup x=_\/(scope.names.map _).lookup x=_
  generalize scope.names=ns at hx
  induction ns with
  | nil=>simp at hx
  | cons p r ih =>
    obtain ⟨n,k⟩:=p
    rw[Uj]
    by_cases hn:x=n
    · subst hn
      simp only[Wv,beq_self_eq_true] at hx
      cases hx
      by_cases hc:((NameKind.free==NameKind.free)&&env.scope.kind == .function&&env.kindOf x==some .cell)=true
      · left
        show List.lookup x ((if _=true then (x,NameKind.cell) else (x,NameKind.free))::_)=_
        rw[if_pos hc]
        simp[Wv]
      · right
        show List.lookup x ((if _=true then (x,NameKind.cell) else (x,NameKind.free))::_)=_
        rw[if_neg hc]
        simp[Wv]
    · have hb:(x==n)=false:=beq_eq_false_iff_ne.mpr hn
      simp only[Wv,hb] at hx
      have:=ih hx
      show List.lookup x ((if _=true then (n,NameKind.cell) else (n,k))::_)=_\/List.lookup x ((if _=true then (n,NameKind.cell) else (n,k))::_)=_
      split <;> (simp only[Wv,hb]; exact this)
theorem Zev{scope:Scope}{env:Env}{x:Str}(hc:∀y∈scope.names,y.2 ≠ .cell)(hx:(relabel scope env).names.lookup x=some .cell\/(relabel scope env).names.lookup x=some .free):(x,NameKind.free)∈scope.names:=by
  unfold relabel at hx
  have hx:(scope.names.map λ(n,k)=>if (k==NameKind.free&&env.scope.kind == .function&&env.kindOf n==some .cell) then (n,NameKind.cell) else (n,k)).lookup x=some .cell\/(scope.names.map λ(n,k)=>if (k==NameKind.free&&env.scope.kind == .function&&env.kindOf n==some .cell) then (n,NameKind.cell) else (n,k)).lookup x=some .free:=hx
  generalize scope.names=ns at hx hc
  induction ns with
  | nil=>simp at hx
  | cons p r ih =>
    obtain ⟨n,k⟩:=p
    rw[Uj] at hx
    have hr:=λz=>ih z (λy hy=>hc y (Wh _ hy))
    by_cases hn:x=n
    · subst hn
      by_cases hk:k=NameKind.free
      · subst hk; exact Wa
      · have hb:(k==NameKind.free)=false:=by simpa using hk
        have hx':List.lookup x ((x,k)::List.map (λ(p:Str×NameKind)=>match p with | (n,k)=>if (k==NameKind.free&&env.scope.kind == .function&&env.kindOf n==some .cell)=true then (n,NameKind.cell) else (n,k)) r)=some .cell\/List.lookup x ((x,k)::List.map (λ(p:Str×NameKind)=>match p with | (n,k)=>if (k==NameKind.free&&env.scope.kind == .function&&env.kindOf n==some .cell)=true then (n,NameKind.cell) else (n,k)) r)=some .free:=by
          simpa [hb] using hx
        simp only[Wv,beq_self_eq_true,Option.some.injEq] at hx'
        rcases hx' with e | e
        · exact absurd e (hc (x,k) Wa)
        · exact absurd e hk
    · have hb:(x==n)=false:=beq_eq_false_iff_ne.mpr hn
      refine Wh _ (hr ?_)
      have hx2:List.lookup x ((if (k==NameKind.free&&env.scope.kind == .function&&env.kindOf n==some .cell)=true then (n,NameKind.cell) else (n,k))::List.map (λ(p:Str×NameKind)=>match p with | (n,k)=>if (k==NameKind.free&&env.scope.kind == .function&&env.kindOf n==some .cell)=true then (n,NameKind.cell) else (n,k)) r)=some .cell\/List.lookup x ((if (k==NameKind.free&&env.scope.kind == .function&&env.kindOf n==some .cell)=true then (n,NameKind.cell) else (n,k))::List.map (λ(p:Str×NameKind)=>match p with | (n,k)=>if (k==NameKind.free&&env.scope.kind == .function&&env.kindOf n==some .cell)=true then (n,NameKind.cell) else (n,k)) r)=some .free:=hx
      split at hx2 <;> (simp only[Wv,hb] at hx2; exact hx2)
end
end L2
namespace L2
open PySem PySem.Spec PyProof.Rows
section
variable{X:Cx}{tg iter elt:Expr}{scope:Scope}{pos:Pos}{wi:TI}{g:TG}{te:TE}{own:List Str}{caps:List (Nat×Str)}
theorem ZjZ{pins:List (Addr×Obj)}{σ:St}{H:Hp}{s:Shared}{fp:List Addr}{C:Addr}{N:List Str}(I:Inv X pins σ H s)(hkind:scope.kind = .function)(hcell:∀y∈scope.names,y.2 ≠ .cell)
    (hfree:∀y,(y,NameKind.free)∈scope.names->∃c,X.env.cells.lookup y=some c) (hC:s.heap.objs.size<=C) (hf:∀b∈fp,ZjH X pins H b) (hlt:∀b∈fp,b<s.heap.objs.size):(ZdH X scope N s H C fp).Ok:=by
  have sub:∀x c,(Zi4 X.env.cells scope.names []).lookup x=some c->X.env.cells.lookup x=some c:=λx c e=>Zf2 scope.names [] (λp hp=>(nomatch hp)) (x,c) (PySem.mem_of_lookup e)
  refine ⟨I.ok.mod,hkind,I.ok.glob,I.ok.blt,hC,λx y c h1 h2=>I.ok.inj x y c (sub x c h1) (sub y c h2),λx hx=>?_,λx c h=>(Qu h).elim,I.ok.hd,I.ok.frames,.inl rfl,λb hb=>⟨?_,λx c e=>(hf b hb).2.2.2.2.1 x c (sub x c e)⟩,I.bs,Q0 I.ok.bsz I.sz,λb o e hb=>?_,λb hb z=>?_,I.stack,I.stkFree⟩
  · obtain ⟨c,hc⟩:=Zf3 scope.names [] (Zev hcell hx) (hfree x (Zev hcell hx))
    exact Zco hc
  · exact Qg (Q7 (hlt b hb) hC)
  · rcases (hf b hb).2.2.2.1 with z | z
    · exact I.ok.noex b o e z
    · exact absurd (Q7 (Heap.lt_size e) (Q0 I.ok.bsz z)) (W0 _)
  · rcases Q9.mp (I.stkSub b z) with e | e
    · exact (hf b hb).2.1 e
    · exact (hf b hb).2.2.1 e
theorem Zm1(k:Nat)(caps:List (Nat×Str))(σ:St):(st0 k caps σ).length=k+caps.length:=by
  unfold st0
  rw[Qb,Wt,Q1]
theorem Zm2{k:Nat}{caps:List (Nat×Str)}{σ:St}{i:Nat}{v:V}(h:(st0 k caps σ)[i]?=some (some v)):k<=i/\∃p,caps[i-k]?=some p/\σ[p.1]?=some (some v):=by
  unfold st0 at h
  by_cases hi:i<k
  · rw[Wi (by rw[Wt]; exact hi),List.getElem?_replicate,if_pos hi] at h
    cases h
  · have hk:k<=i:=Nat.not_lt.mp hi
    refine ⟨hk,?_⟩
    rw[Ws (by rw[Wt]; exact hk),Wt,Qa] at h
    cases e:caps[i-k]? with
    | none=>rw[e] at h; cases h
    | some p =>
      rw[e] at h
      refine ⟨p,rfl,?_⟩
      have h':(σ[p.1]?).join=some v:=Option.some.inj h
      cases q:σ[p.1]? with
      | none=>rw[q] at h'; cases h'
      | some o=>rw[q] at h'; cases o with
        | none=>cases h'
        | some w=>cases h'; rfl
theorem Zg6{pins:List (Addr×Obj)}{σ:St}{H:Hp}{s:Shared}{fp:List Addr}{it:Addr}{tn:Nat->Heap->Prop}{J:It}{E:Value->Shared->Prop}{RR:Value->Addr->Result->Shared->Prop}{QL:List V->Hp->Prop}
    (I:Inv X pins σ H s) (hc:X.calm=true) (T:Turn X.prog X.w X.K tg J fp it tn) (st:tn 0 s.heap) (hf:∀b∈fp,ZjH X pins H b)
    (hkind:scope.kind = .function) (hcell:∀y∈scope.names,y.2 ≠ .cell) (hfree:∀y,(y,NameKind.free)∈scope.names->∃c,X.env.cells.lookup y=some c) (hcap:CapsOk X scope caps)
    (hg:∀s₀ H₀ C,PG (ZdH X scope (own++caps.map (·.2)) s₀ H₀ C fp) tg g) (he:∀s₀ H₀ C,PE (ZdH X scope (own++caps.map (·.2)) s₀ H₀ C fp) elt te)
    (hB:Zg4 own.length caps g te σ J H QL)
    (fin:∀D C s' m ys H',s.heap.objs.size<=C->D≠C->s'.heap.Ns C m->Inv X pins σ (upd H' D (.lst ys)) s'->H' D=none->H' C=none->QL ys H'->RR (.ref D) C (.ok .next) s') :
    wpAny (model X.prog X.w) X.A (newList []) (λacc s₃=>wpAny (model X.prog X.w) X.A (newFunctionEnv scope X.env.globals (Zi4 X.env.cells scope.names []) [] X.env.qual none .none (some X.env)) (λcenv s₄ =>
      codeAny (model X.prog X.w) X.A (.compStart (.ListComp elt [⟨tg,iter,[],0⟩] scope pos) 0 (.ref it) acc { cenv with scope:=relabel scope X.env }) (RR acc cenv.locals) s₄) E s₃) E s:=by
  refine wpAny_newObj_type (wpAny_newFunctionEnv hcell (by intro y hy; simp at hy) (λh₁ hns₁ hsb₁=>?_) hkind)
  dsimp only at hns₁ hsb₁ ⊢
  generalize hH2:s.heap.push { cls:=.type "list", dict:=none,data:=.seq ([]:List Value).toArray }=H2 at hns₁ hsb₁ ⊢
  have hC:H2.objs.size=s.heap.objs.size+1:=by rw[<-hH2,Heap.size_push]
  generalize hCC:H2.objs.size=C at *
  have hCle:s.heap.objs.size<=C:=by rw[hC]; exact Ut _
  generalize hDD:s.heap.objs.size=D at *
  have hDC:D≠C:=by rw[hC]; exact Qg (Ur _)
  have below:∀b,b<D->b≠C/\b≠D:=λb hb=>⟨by rw[hC]; exact Qg (Nat.lt_succ_of_lt hb),Qg hb⟩
  have lts:∀ {b o},s.heap.get? b=some o->b<D:=fun {b o} e=>by rw[<-hDD]; exact Heap.lt_size e
  have old:∀b o,s.heap.get? b=some o->h₁.get? b=some o:=λb o e=>hsb₁.extBut b o (below b (lts e)).1 (Heap.get?_push_of_some _ (hH2 ▸ Heap.get?_push_of_some _ e))
  have hacc:h₁.get? D=some { cls:=.type "list", data:=.seq ([]:List Value).toArray 0 }:=hsb₁.extBut _ _ hDC (Heap.get?_push_of_some _ (hH2 ▸ (hDD ▸ Heap.get?_push_size _ rfl)))
  have hlt:∀b∈fp,b<D:=λb hb=>let ⟨o,e,_⟩:=T.obj 0 _ st b hb; lts e
  have freshS:∀b,D<=b->s.heap.get? b=none:=λb hb=>by
    cases e:s.heap.get? b with
    | none=>rfl
    | some o=>exact absurd (lts e) (Nat.not_lt.mpr hb)
  have nH:∀b,D<=b->H b=none:=λb hb=>I.hok.fresh (by rw[hDD]; exact hb)
  let Y:Cx:=ZdH X scope (own++caps.map (·.2)) s H C fp
  have okY:Y.Ok:=ZjZ I hkind hcell hfree (by rw[hDD]; exact hCle) hf (by rw[hDD]; exact hlt)
  have sub:∀x c,(Zi4 X.env.cells scope.names []).lookup x=some c->X.env.cells.lookup x=some c:=λx c e=>Zf2 scope.names [] (λp hp=>(nomatch hp)) (x,c) (PySem.mem_of_lookup e)
  have celllt:∀x c,X.env.cells.lookup x=some c->c<D:=λx c e=>by
    obtain ⟨v,o,ho,_⟩:=I.cell x c e
    exact lts ho
  have stklt:∀b∈frs X.stack,b<D:=λb hb=>by
    rcases Q9.mp (I.stkSub b hb) with e | e
    · rw[e,<-hDD]; exact I.lt
    · obtain ⟨_,o,ho,_⟩:=I.funs.mem e
      exact lts ho
  have I0:Inv Y [] (st0 own.length caps σ) H { s with heap:=h₁,toks:=s.toks+([]:List (Str×Value)).length }:=by
    refine ⟨okY,rfl,I.bare,Un.kept old,⟨_,hns₁,λi x v h1 h2 h3=>?_⟩,λx c e=>?_,nH C hCle,λx c e=>I.freeC x c (sub x c e),λp hp=>?_,I.hok.kept old,?_⟩
    · obtain ⟨hk,p,hp,hv⟩:=Zm2 h2
      have h1':caps[i-own.length]?.map (·.2)=some x:=by
        have:(own++caps.map (·.2))[i]?=some x:=h1
        rw[Ws hk,Qa] at this
        exact this
      rw[hp] at h1'
      cases h1'
      obtain ⟨q1,q2,q3⟩:=hcap.mem p (Q8 hp)
      obtain ⟨m,hn,hl⟩:=I.loc
      obtain ⟨u,r,l⟩:=hl p.1 p.2 v q1 hv (by rcases q3 with z | z; exact .inr (.inl z); exact .inr (.inr z))
      refine ⟨u,r,.inr ⟨Zg5 q2,?_⟩⟩
      rcases l with ⟨z,_⟩ | ⟨_,c,hc',z⟩
      · rcases q3 with y | y <;> (rw[y] at z; cases z)
      · have hm:(p.2,NameKind.free)∈scope.names:=PySem.mem_of_lookup q2
        obtain ⟨d,hd⟩:=Zf3 scope.names [] hm ⟨c,hc'⟩
        obtain ⟨d',hd'⟩:=Zco hd
        have e:=sub _ _ hd'
        rw[hc'] at e
        cases e
        obtain ⟨oc,ho,hdt⟩:=z
        exact ⟨c,hd',oc,old _ _ ho,hdt⟩
    · obtain ⟨v,o,ho,hd⟩:=I.cell x c (sub x c e)
      exact ⟨v,o,old _ _ ho,hd⟩
    · exact absurd (show p∈([]:List (Addr×Obj)) from hp) (by simp)
    · rw[Zm1]
      show _=(own++caps.map (·.2)).length
      rw[Qb,Q1]
  have pinD:∀ {its:List Value} {n:Nat} {σ':St} {H':Hp} {s':Shared},Inv Y [] σ' H' s'->H' D=none->s'.heap.get? D=some { cls:=.type "list", data:=.seq its.toArray n }->Inv Y [(D,{ cls:=.type "list", data:=.seq its.toArray n })] σ' H' s':=fun {its n σ' H' s'} J hn e =>
    J.pins_of λp hp=>by
      have ep:p=(D,{ cls:=.type "list", data:=.seq its.toArray n }):=Q5.mp hp
      subst ep
      refine ⟨e,hn,hDC,λz=>?_,λv z=>by cases z⟩
      exact absurd (stklt D z) (W0 _)
  obtain ⟨W,⟨m0,w0⟩,turn⟩:=hB
  have fpY:∀ {H':Hp} {pins':List (Addr×Obj)},(∀b∈fp,H' b=none)->(∀p∈pins',∀b∈fp,p.1≠b)->∀b∈fp,ZjH Y pins' H' b:=fun {H' pins'} hn hp b hb =>
    ⟨hn b hb,(okY.exf b hb).1,okY.exfs b hb,.inl hb,(okY.exf b hb).2,λp q=>hp p (by simpa [Y,ZdH] using q) b hb⟩
  have loop:∀s₃:Shared,s₃={ s with heap:=h₁,toks:=s.toks+([]:List (Str×Value)).length } →
      codeAny (model X.prog X.w) X.A (.compLoop (.ListComp elt [⟨tg,iter,[],0⟩] scope pos) 0 (.ref it) (.ref D) (compEnvC scope (Zi4 X.env.cells scope.names []) C X.env)) (RR (.ref D) C) s₃:=by
    rintro s₃ rfl
    refine Zg3 (λk s'=>∃(i:Nat) (ys:List V) (its:List Value) (n:Nat) (H':Hp),Inv Y [(D,{ cls:=.type "list", data:=.seq its.toArray n })] (st0 own.length caps σ) H' s'/\tn i s'.heap/\(∀b∈fp,H' b=none)/\Vals ys its/\W i k ys H') ?_ m0
      ⟨0,[],[],0,H,pinD I0 (nH D (Q4 _)) hacc,T.keep _ _ _ st λb _ o e=>old b o e,λb hb=>(hf b hb).1,.nil,w0⟩
    rintro k s3 ⟨i,ys,its,n,H3,I3,st3,fr3,rv,w3⟩
    obtain ⟨pD,nD,_⟩:=I3.pin (D,{ cls:=.type "list", data:=.seq its.toArray n }) (W1 _ Wa)
    have ff:=fpY (pins':=[(D,{ cls:=.type "list", data:=.seq its.toArray n })]) fr3 (λp hp b hb=>by
      rw[Q5.mp hp]; exact (Ne.symm (below b (hlt b hb)).2))
    obtain ⟨hsz,turn⟩:=turn i k ys H3 w3
    rcases turn with ⟨stop,q⟩ | ⟨go,hsz',NN,hNN,step⟩
    · refine thn (T.done Y rfl rfl rfl hc i _ s3 _ H3 _ I3 ff st3 stop) λr s4 ⟨hr,I4⟩=>?_
      subst hr
      obtain ⟨m4,hn4,_⟩:=I4.loc
      obtain ⟨pD4,nD4,_⟩:=I4.pin (D,{ cls:=.type "list", data:=.seq its.toArray n }) (W1 _ Wa)
      refine fin D C s4 m4 ys H3 hCle hDC hn4 ?_ nD4 I4.free q
      have hk:=I4.base
      have hok4:HOk X.prog X.w H3 s4.heap:=I4.hok
      have neD:∀b u,H3 b=some u->b≠D:=λb u e z=>by rw[z,nD4] at e; cases e
      refine I.call' (ch:=fp) I4.os ⟨λb o e n hb hx=>hk.keep b o e n hb hx,λb o e n hb hx=>hk.slot b o e n hb hx,λb o e n hx=>?_,λb o e hx=>hk.there b o e hx,λb xs e=>?_,λb o u e=>?_,λb ps e=>?_⟩ ?_ I4.bare ?_
      · rw[Zav (below b (lts e)).2]; exact hk.free b o e n hx
      · have:=hk.tups b xs e
        rw[Zav (neD b _ this)]; exact this
      · have:=hk.frzs b o u e
        rw[Zav (neD b _ this)]; exact this
      · obtain ⟨more,e'⟩:=hk.tbls b ps e
        exact ⟨more,by rw[Zav (neD b _ e')]; exact e'⟩
      · intro b u e
        by_cases hb:b=D
        · subst hb
          rw[Zaf] at e
          cases e
          exact ⟨hsz,its,n,rv,pD4⟩
        · rw[Zav hb] at e
          exact (hok4 b u e).stay (λc v _ q=>q) (λc q=>by rw[Zav (neD c _ q)]; exact q) λc xs q=>by rw[Zav (neD c _ q)]; exact q
      · intro b hb
        obtain ⟨_,f1,_,f3,f4,f5⟩:=hf b hb
        exact ⟨f3,f1,f4,f5⟩
    · refine thn (T.item Y rfl rfl rfl hc i _ s3 _ H3 _ I3 ff st3 go) λr s4 ⟨u,hr,h4⟩=>?_
      subst hr
      refine thn h4 λ_ s5 ⟨x,H5,I5,r5,y5,st5,fr5⟩=>?_
      have ff5:=fpY (pins':=[(D,{ cls:=.type "list", data:=.seq its.toArray n })]) fr5 (λp hp b hb=>by
        rw[Q5.mp hp]; exact (Ne.symm (below b (hlt b hb)).2))
      have I5':=I5.pinned ff5 (T.obj _ _ st5)
      refine thn (hg s H C _ s5 _ H5 x u _ I5' r5 (step x H5 y5)) λ_ s6 ⟨σ6,H6,I6,wk,q6⟩=>?_
      refine thn (he s H C _ s6 σ6 H6 _ I6 q6) λy s7 ⟨v,H7,I7,r7,n7⟩=>?_
      obtain ⟨m',hm,w7⟩:=hNN v H7 n7
      obtain ⟨pD7,nD7,_,_,_⟩:=I7.pin (D,{ cls:=.type "list", data:=.seq its.toArray n }) (W1 _ (Ui _ Wa))
      refine append_at (n:=n) pD7 (λh' hs' hD'=>?_) (by rw[Qe,<-rv.length]; exact hsz)
      have st7:tn (i+1) s7.heap:=T.keep _ _ _ st5 λb hb o e=>(I7.pin (b,o) (W1 _ (W1 _ (Zc6 hb e)))).1
      have fr7:∀b∈fp,H7 b=none:=λb hb=>by
        obtain ⟨o,e,d⟩:=T.obj _ _ st5 b hb
        exact (I7.pin (b,o) (W1 _ (W1 _ (Zc6 hb e)))).2.1
      have I8:Inv Y [] σ6 H7 s7:=I7.pins_of λp hp=>(nomatch hp)
      have I9:Inv Y [] (st0 own.length caps σ) H7 s7:=I8.weak (by rw[I0.len,I8.len]) wk
      have I10:Inv Y [] (st0 own.length caps σ) H7 { s7 with heap:=h' }:=I9.turned (t':=s7.toks) (it:=D) (λb o hb e=>hs'.extBut b o hb e) nD7 hDC (.inr (Nat.le_of_eq hDD)) (λx c e=>Qg (celllt x c (sub x c e))) (λp hp=>absurd (show p∈([]:List (Addr×Obj)) from hp) (by simp))
      refine ⟨m',hm,i+1,ys++[v],its++[y],n+1,H7,pinD I10 nD7 ?_,?_,fr7,rv.append (.cons r7 .nil),w7⟩
      · rw[hD',List.push_toArray]
      · exact T.keep _ _ _ st7 λb hb o e=>hs'.extBut b o (below b (hlt b hb)).2 e
  have tn1:tn 0 h₁:=T.keep _ _ _ st λb _ o e=>old b o e
  exact codeAny_compStart_list (loop _ rfl) (T.self _ 0 _ _ _ tn1 (loop _ rfl))
end
end L2
namespace L2
open PySem PySem.Spec PyProof.Rows
section
variable{X:Cx}{tg iter elt:Expr}{scope:Scope}{pos:Pos}{wi:TI}{g:TG}{te:TE}{own:List Str}{caps:List (Nat×Str)}
theorem ZaX(own:List Str)(caps:List (Nat×Str))(hc:X.calm=true)(hi:PI X tg iter wi)(hg:∀fp s₀ H₀ C,PG (ZdH X scope (own++caps.map (·.2)) s₀ H₀ C fp) tg g)(he:∀fp s₀ H₀ C,PE (ZdH X scope (own++caps.map (·.2)) s₀ H₀ C fp) elt te)
    (hcap:CapsOk X scope caps)
    (hfr:(scope.names.all λy=>!(y.2==NameKind.free)||(X.env.cells.lookup y.1).isSome)=true:=by rfl)
    (hkind:scope.kind = .function:=by rfl) (hcell:∀y∈scope.names,y.2 ≠ .cell:=by decide +kernel)
    (hnames:∀y∈scope.names,y.2 = .local->scope.names.lookup y.1=some .local:=by decide +kernel) (hs:∀x,foldedSetIterable iter X.env x=pure x:=by intro _; rfl) :
    PE X (.ListComp elt [⟨tg,iter,[],0⟩] scope pos) (Zof own.length caps wi g te):=by
  intro pins s σ H Q I h
  have hfree:=Ziw hfr
  have hclos:=ZfR hfree
  rw[eval_ListComp]
  refine wpAny_comprehension_free (use:=none) rfl hs hclos hkind hnames (thn (hi pins s σ H _ I h) λv s1 h1=>thn h1 λitv s2 h2=>?_)
  obtain ⟨it,fp,tn,J,H2,e,I2,T,st2,f2,hB⟩:=h2
  subst e
  refine Zg6 (RR:=λacc C=>compPost (model X.prog X.w) X.A X.xe none (EP X pins σ Q) acc C) I2 hc T st2 f2 hkind hcell hfree hcap (hg fp) (he fp) hB ?_
  intro D C s' m ys H' hC hDC hn I3 nD nC q
  refine ⟨m,hn,λh' hs'=>⟨.ref D,upd H' D (.lst ys),?_,rfl,q D nD⟩⟩
  exact I3.turned (t':=s'.toks) (it:=C) (λb o hb e=>hs'.extBut b o hb e) (by rw[Zav (Ne.symm hDC)]; exact nC) (Ne.symm (Qg (Q7 I2.lt hC))) (.inr (Q0 I2.sz hC))
    (λx c e z=>by
      obtain ⟨v,o,ho,_⟩:=I2.cell x c e
      rw[z] at ho
      exact absurd (Q7 (Heap.lt_size ho) hC) (W0 _))
    (λp hp z=>by
      have:=(I2.pin p hp).1
      rw[z] at this
      exact absurd (Q7 (Heap.lt_size this) hC) (W0 _))
theorem Zcf{i:Nat}{x:Str}{pos' spos:Pos}(own:List Str)(caps:List (Nat×Str))(hN:X.N.Nodup)(hx1:X.N[i]?=some x)(hx:X.env.scope.names.lookup x=some .local)(hc:X.calm=true)(hi:PI X tg iter wi)
    (hg:∀fp s₀ H₀ C,PG (ZdH X scope (own++caps.map (·.2)) s₀ H₀ C fp) tg g) (he:∀fp s₀ H₀ C,PE (ZdH X scope (own++caps.map (·.2)) s₀ H₀ C fp) elt te)
    (hcap:CapsOk X scope caps)
    (hfr:(scope.names.all λy=>!(y.2==NameKind.free)||(X.env.cells.lookup y.1).isSome)=true:=by rfl)
    (hsw:swapsWith (.ListComp elt [⟨tg,iter,[],0⟩] scope pos) (some (.Name x pos')) spos.line X.env=pure true:=by rfl)
    (hkind:scope.kind = .function:=by rfl) (hcell:∀y∈scope.names,y.2 ≠ .cell:=by decide +kernel)
    (hnames:∀y∈scope.names,y.2 = .local->scope.names.lookup y.1=some .local:=by decide +kernel) (hs:∀x,foldedSetIterable iter X.env x=pure x:=by intro _; rfl) :
    PS X (.Assign [.Name x pos'] (.ListComp elt [⟨tg,iter,[],0⟩] scope pos) spos) (Zpc (Zof own.length caps wi g te) (ZeA i)):=by
  intro pins s σ H D0 I h
  have hfree:=Ziw hfr
  have hclos:=ZfR hfree
  rw[exec_Assign_Name_used _ _ _ _ hsw]
  refine wpAny_bind (wpAny_standAt (wpAny_bind ?_))
  show wpAny _ X.A (do let _ ← comprehension (.ListComp elt [⟨tg,iter,[],0⟩] scope pos) scope X.env _ (newList []) false (eval iter X.env) (some (assign (.Name x pos') X.env))) _ _ s
  refine wpAny_bind (wpAny_mono (wpAny_comprehension_free (use:=some (assign (.Name x pos') X.env)) (Q:=λ_ s'=>SP X pins D0 .next s') rfl hs hclos hkind hnames (thn (hi pins s σ H _ I h) λv s1 h1=>thn h1 λitv s2 h2=>?_)) (λ_ s' hq=>wpAny_pure (wpAny_pure hq)) λ_ _ e=>e)
  obtain ⟨it,fp,tn,J,H2,e,I2,T,st2,f2,hB⟩:=h2
  subst e
  refine Zg6 (RR:=λacc C=>compPost (model X.prog X.w) X.A X.xe (some (assign (.Name x pos') X.env)) (λ_ s'=>SP X pins D0 .next s') acc C) I2 hc T st2 f2 hkind hcell hfree hcap (hg fp) (he fp) hB ?_
  intro D C s' m ys H' hC hDC hn I3 nD nC q
  show wpAny _ X.A (assign (.Name x pos') X.env (.ref D)) _ _ _
  have hCl:C≠X.env.locals:=Ne.symm (Qg (Q7 I2.lt hC))
  have hCc:∀x c,X.env.cells.lookup x=some c->c≠C:=λx c e z=>by
    obtain ⟨v,o,ho,_⟩:=I2.cell x c e
    rw[z] at ho
    exact absurd (Q7 (Heap.lt_size ho) hC) (W0 _)
  refine wpAny_assign_Name (ZgP I3 hN hx1 (.inl hx) (v:=.ref D) rfl (λs4 I4 ⟨a,sb,ha⟩=>?_) (.inr hx))
  have hCa:C≠a:=by
    rcases ha with e | e
    · rw[e]; exact hCl
    · exact Ne.symm (hCc x a e)
  refine ⟨m,hn.sameBut sb hCa,λh' hs'=>⟨_,_,?_,q D nD⟩⟩
  exact I4.turned (t':=s4.toks) (it:=C) (λb o hb e=>hs'.extBut b o hb e) (by rw[Zav (Ne.symm hDC)]; exact nC) hCl (.inr (Q0 I2.sz hC)) hCc
    (λp hp z=>by
      have:=(I2.pin p hp).1
      rw[z] at this
      exact absurd (Q7 (Heap.lt_size this) hC) (W0 _))
theorem Zog{x:V}{cs:List (Option V)}:∀(i:Nat) v,((none:Option V)::cs)[i]?=some (some v)->((some x)::cs)[i]?=some (some v)
  | 0,v,h=>by simp at h
  | i+1,v,h=>by simpa using h
theorem ZaL{K:PySem.W.Frag}{a:Addr}{xs:List V}{σ:St}{H:Hp}{QL:List V->Hp->Prop}(Pv:Nat->List V->Hp->Prop)(hz:xs.length<=1000)(h0:Pv 0 [] H)(hl:∀i ys H,i<=xs.length->Pv i ys H->SqL K H a xs)
    (hs:∀i x ys H,xs[i]?=some x->ys.length=i->Pv i ys H->te (some x::caps.map λp=>(σ[p.1]?).join) H λv H'=>Pv (i+1) (ys++[v]) H') (hd:∀ys H,ys.length=xs.length->Pv xs.length ys H->QL ys H) :
    Zg4 1 caps (ZeA 0) te σ (Itl K a) H QL:=by
  have hz':xs.length<sizeLine:=ZdF hz
  refine ⟨λi m ys H=>m=xs.length-i/\i<=xs.length/\ys.length=i/\Pv i ys H,⟨_,rfl,Qh _,rfl,h0⟩,?_⟩
  rintro i m ys H' ⟨rfl,hi,hy,p⟩
  have q:=hl i ys H' hi p
  refine ⟨⋯,?_⟩
  by_cases hlt:i<xs.length
  · refine .inr ⟨⟨xs,xs[i],q,by simp[hlt]⟩,⋯,λv H4=>Pv (i+1) (ys++[v]) H4,λv H4 p'=>⟨xs.length-(i+1),⋯,rfl,hlt,by rw[Qb,hy]; rfl,p'⟩,λx H2 y=>?_⟩
    obtain ⟨e,y⟩:=y
    subst e
    exact ⟨Zog,hs i x ys _ (y xs q) hy p⟩
  · have e:i=xs.length:=by omega
    subst e
    exact .inl ⟨⟨xs,q,Q4 _⟩,hd ys H' hy p⟩
theorem Zbu{lo:Int}{n:Nat}{σ:St}{H:Hp}{QL:List V->Hp->Prop}(Pv:Nat->List V->Hp->Prop)(hz:n<=1000)(h0:Pv 0 [] H)
    (hs:∀i ys H,i<n->ys.length=i->Pv i ys H->te (some (.int (lo+i))::caps.map λp=>(σ[p.1]?).join) H λv H'=>Pv (i+1) (ys++[v]) H') (hd:∀ys H,ys.length=n->Pv n ys H->QL ys H) :
    Zg4 1 caps (ZeA 0) te σ (Itr lo n) H QL:=by
  have hz':n<sizeLine:=ZdF hz
  refine ⟨λi m ys H=>m=n-i/\i<=n/\ys.length=i/\Pv i ys H,⟨_,rfl,Qh _,rfl,h0⟩,?_⟩
  rintro i m ys H' ⟨rfl,hi,hy,p⟩
  refine ⟨⋯,?_⟩
  by_cases hlt:i<n
  · refine .inr ⟨hlt,⋯,λv H4=>Pv (i+1) (ys++[v]) H4,λv H4 p'=>⟨n-(i+1),⋯,rfl,hlt,by rw[Qb,hy]; rfl,p'⟩,λx H2 y=>?_⟩
    obtain ⟨e,y⟩:=y
    subst e y
    exact ⟨Zog,hs i ys _ hlt hy p⟩
  · have e:i=n:=by omega
    subst e
    exact .inl ⟨Q4 _,hd ys H' hy p⟩
end
end L2
namespace L2
open PySem PySem.Spec PyProof.Rows
structure HasM (P:Program) (w:World) (K:PySem.W.Frag) (mg:Str->Option Value) (base:Heap) (C:Addr) (m:Str) (k:Nat) (ps:List Str) (dvs:List V) (sp:Sp):Prop where
  ex:∃(f:Addr) (fd:FuncData) (ds:List Value),FnOk P w K mg base CX0 k f fd ps sp/\Meth K C m f/\Binds K fd ps ds/\Vals dvs ds
theorem HasM.mono{P:Program}{w:World}{K:PySem.W.Frag}{mg:Str->Option Value}{base:Heap}{C:Addr}{m:Str}{j k:Nat}{ps:List Str}{dvs:List V}{sp:Sp}(h:HasM P w K mg base C m j ps dvs sp)(e:j<=k):HasM P w K mg base C m k ps dvs sp :=
  let ⟨f,fd,ds,a,b,c,d⟩:=h.ex
  ⟨f,fd,ds,a.mono e,b,c,d⟩
def Zmj(P:Program)(w:World)(K:PySem.W.Frag)(mg:Str->Option Value)(base:Heap)(m:Str)(k:Nat)(ta:TE)(t:TA):TE:=λσ H Q=>ta σ H λx H1=>∃a C dx fs ps dvs sp,x = .ref a/\H1 a=some (.ins C dx fs)/\Cls K C/\HasM P w K mg base C m k ps dvs sp/\fs.lookup m=none ∧
  t σ H1 λvs H2=>sp (x::(vs++dvs)) H2 Q E0
section
variable{X:Cx}{k:Nat}{m x:Str}{p pos apos:Pos}{e o:Expr}{es:List Expr}{ta:TE}{t:TA}
theorem ZaZ{pl:Sem Bool}(he:PE X o ta)(hr:Room k X.A)(ha:PA X (e::es) t)
    (hst:starEach (e::es) X.env=(false,eval e X.env)::starEach es X.env:=by rfl) (hpl:(backTo pos (starEach es X.env)).any (·.1)=false:=by rfl)
    (ht:eval (.Call (.Attribute o m apos) (e::es) [] pos) X.env=(do
      let ov ← eval o X.env
      standAt apos.atName
      let (f,first) ← holding [ov] (getMethod ov m pl)
      callWith pos f first (backTo pos (starEach (e::es) X.env)) (backToKw pos (keywordEach [] X.env))):=by rfl) :
    PE X (.Call (.Attribute o m apos) (e::es) [] pos) (Zmj X.prog X.w X.K X.mg X.base m k ta t):=by
  intro pins s σ H Q I h
  refine PySem.W.methodCall_KW (pl:=pl) (thn (he pins s σ H _ I h) λu s1 ⟨x,H1,I1,rx,a,C,dx,fs,ps,dvs,sp,ex,ea,c,hM,l,q⟩=>?_) ht
  subst ex
  obtain rfl:u=Value.ref a:=rx
  obtain ⟨f,fd,ds,F,hm,hb,hd⟩:=hM.ex
  refine ZfP I1 ea c hm l ?_
  refine PySem.W.callWith_K (first:=[.ref a]) (h₀:=X.base) I.ok.mod.kin hm.kp (thn (ha pos pins s1 σ H1 _ I1 q) λus s2 ⟨vs,H2,I2,r,q2⟩=>⟨I2.kIn,?_⟩) hst hpl
  exact Zmi (us:=.ref a::us) (vs:=.ref a::vs) F hr hb hd ZmY I2 (.cons rfl r) q2
structure HasI (P:Program) (w:World) (K:PySem.W.Frag) (mg:Str->Option Value) (base:Heap) (C:Addr) (k:Nat) (ps:List Str) (sp:Sp):Prop where
  ex:∃(f:Addr) (fd:FuncData),Mk K C f/\FnOk P w K mg base CX0 k f fd ps sp/\Binds K fd ps []
theorem Zls{C:Addr}{ps:List Str}{sp:Sp}(h:HasI X.prog X.w X.K X.mg X.base C k ps sp)(hr:Room (k+1) X.A)(hg:Gl X x)(hm:X.mg x=some (.ref C))(ha:PA X (e::es) t)(hdb:(x==("__debug__" : Str))=false:=by decide)
    (he:starEach (e::es) X.env=(false,eval e X.env)::starEach es X.env:=by rfl) (hpl:(backTo pos (starEach es X.env)).any (·.1)=false:=by rfl):PE X (.Call (.Name x p) (e::es) [] pos) (Zoc C sp [] E0 t):=by
  obtain ⟨f,fd,M,F,b⟩:=h.ex
  exact ZmS M F hr hg hm b .nil ZmY ha hdb he hpl
structure HereM (K:PySem.W.Frag) (C:Addr) (m qual:Str) (st:Stmt):Prop where
  ex:∃(f:Addr) (fd:FuncData),Fun K m qual st f fd/\Meth K C m f
theorem HereM.hasM{P:Program}{w:World}{K:PySem.W.Frag}{mg:Str->Option Value}{base:Heap}{C:Addr}{m qual:Str}{st:Stmt}{k:Nat}{ps:List Str}{sp:Sp}(h:HereM K C m qual st)
    (b:∀f fd,Fun K m qual st f fd->Binds K fd ps []) (ok:∀f fd,Fun K m qual st f fd->FnOk P w K mg base CX0 k f fd ps sp):HasM P w K mg base C m k ps [] sp :=
  let ⟨f,fd,F,M⟩:=h.ex
  ⟨f,fd,[],ok f fd F,M,b f fd F,.nil⟩
theorem hereM_mk{K:PySem.W.Frag}{C:Addr}{m qual:Str}{st:Stmt}{f:Addr}{oc:Value}{od an:Option Addr}{osl:Array (Option Value)}{kV doc pm cdv ct:Value}(a:PySem.W.findIn K (.ref C) m=some (some (.ref f)))(i:PySem.W.isFn K (.ref f)=true)
    (l:K.lookup f=some ⟨oc,od,.func (PySem.W.fnOf m qual (Zb7 st) (Zbt st) (Zah st) .none kV doc pm an cdv ct),osl⟩)
    (c:PySem.W.codeIn K cdv qual=true) (k:PySem.W.keepIn K (.ref f)=true):HereM K C m qual st:=⟨f,_,ZjX l c k,a,i,k⟩
structure HereI (K:PySem.W.Frag) (C:Addr) (qual:Str) (st:Stmt):Prop where
  ex:∃(f:Addr) (fd:FuncData),Fun K "__init__" qual st f fd/\Mk K C f
theorem HereI.hasI{P:Program}{w:World}{K:PySem.W.Frag}{mg:Str->Option Value}{base:Heap}{C:Addr}{qual:Str}{st:Stmt}{k:Nat}{ps:List Str}{sp:Sp}(h:HereI K C qual st)
    (b:∀f fd,Fun K "__init__" qual st f fd->Binds K fd ps []) (ok:∀f fd,Fun K "__init__" qual st f fd->FnOk P w K mg base CX0 k f fd ps sp):HasI P w K mg base C k ps sp :=
  let ⟨f,fd,F,M⟩:=h.ex
  ⟨f,fd,M,ok f fd F,b f fd F⟩
theorem hereI_mk{K:PySem.W.Frag}{C:Addr}{qual:Str}{st:Stmt}{f:Addr}{oc:Value}{od an:Option Addr}{osl:Array (Option Value)}{kV doc pm cdv ct:Value}(mk:PySem.W.makesIn K C=true)(a:PySem.W.findIn K (.ref C) "__init__" = some (some (.ref f))) (i:PySem.W.isFn K (.ref f)=true)
    (kc:PySem.W.keepIn K (.ref C)=true) (l:K.lookup f=some ⟨oc,od,.func (PySem.W.fnOf "__init__" qual (Zb7 st) (Zbt st) (Zah st) .none kV doc pm an cdv ct),osl⟩)
    (c:PySem.W.codeIn K cdv qual=true) (k:PySem.W.keepIn K (.ref f)=true):HereI K C qual st:=⟨f,_,ZjX l c k,mk,a,i,kc⟩
structure Mk0 (K:PySem.W.Frag) (C:Addr):Prop where
  makes:PySem.W.makesIn K C=true
  init:PySem.W.findIn K (.ref C) "__init__" = some (some (.builtin "object.__init__"))
  kp:PySem.W.keepIn K (.ref C)=true
def Zm3(C:Addr):TE:=λ_ H Q=>∀x dx,H x=none->H dx=none->dx≠x->Q (.ref x) (upd (upd H dx (.own x)) x (.ins C dx []))
theorem Zi5{C:Addr}{pins:List (Addr×Obj)}{σ:St}{H:Hp}{s:Shared}{Q:VK}(M:Mk0 X.K C)(I:Inv X pins σ H s)
    (h:∀x dx,H x=none->H dx=none->dx≠x->Q (.ref x) (upd (upd H dx (.own x)) x (.ins C dx []))):wpAny (model X.prog X.w) X.A (call (.ref C) []) (EP X pins σ Q) X.xe s:=by
  have hq:=h (s.heap.objs.size+1) s.heap.objs.size (I.hok.fresh (Ut _)) (I.hok.fresh (Q4 _)) (Qg (Ur _))
  have I2:=Inv.made (C:=C) I
  refine wpAny_call (ZjP I.kIn M.makes M.init (λself=>PySem.W.Looks.of_pure (PySem.W.oi_bind self)) ?_)
  have Y:=PySem.W.makes_of (M:=model X.prog X.w) I.kIn M.makes
  obtain ⟨hh,g,d,t,os⟩:=s
  have t1:PySem.W.Looks (model X.prog X.w) ((hh.push PySem.W.emptyDict).push (PySem.W.instObj C hh.objs.size)) (typeOf (.ref (hh.objs.size+1))) (.ref C) :=
    (PySem.W.Looks.ld (o:=PySem.W.instObj C hh.objs.size) (by have:=Heap.get?_push_size (hh.push PySem.W.emptyDict) (o:=PySem.W.instObj C hh.objs.size) rfl; rwa [Heap.size_push] at this)).andThen .now
  have t2:PySem.W.Looks (model X.prog X.w) ((hh.push PySem.W.emptyDict).push (PySem.W.instObj C hh.objs.size)) (isInstance (.ref (hh.objs.size+1)) (.type "object")) true:=t1.andThen (Y.top.keeps λb o e=>Heap.get?_push_of_some _ (Heap.get?_push_of_some _ e))
  refine codeAny_call_builtin PySem.W.oi_plain PySem.W.entry_oi (@PySem.W.check_slot (model X.prog X.w) _ _ _ "object.__init__" "object" "__init__" (.ref (hh.objs.size+1)) [] [] _ PySem.W.oi_kind PySem.W.oi_split t2 (PySem.W.oi_args (.ref (hh.objs.size+1))) ?_)
  rw[PySem.W.oi_run]
  refine wpAny_pure (And.intro rfl ?_)
  exact ⟨V.ref (hh.objs.size+1),_,I2,rfl,hq⟩
theorem Zj0{C:Addr}(M:Mk0 X.K C)(hg:Gl X x)(hm:X.mg x=some (.ref C))(hdb:(x==("__debug__" : Str))=false:=by decide):PE X (.Call (.Name x p) [] [] pos) (Zm3 C):=by
  intro pins s σ H Q I h
  refine wpAny_Call_Name_kw (Zdi I hg hm ?_ hdb)
  exact PySem.W.callWith_K0 I.kIn M.kp (Zi5 M I h)
end
end L2
namespace M1
theorem fmod_gcd(a b:Int):Int.gcd b (a.fmod b)=Int.gcd a b:=by
  have h:a.fmod b=a-b*a.fdiv b:=Int.fmod_def a b
  rw[h,Uu a b]
  have:a-b*a.fdiv b=a+b*(-(a.fdiv b)):=by rw[Ww]; omega
  rw[this]
  simp
theorem Zoh(i:Int):(if i<0 then -i else i)=(i.natAbs:Int):=by split <;> omega
theorem gcd_zero'(a:Int):(Int.gcd a 0:Int)=(if a<0 then -a else a):=by
  rw[Zoh,Int.gcd_zero_right]
theorem ZeV(a:Int){b:Int}(h:b<0):a.fmod b<=0/\b<a.fmod b:=by
  have e:=Int.neg_fmod_neg a b
  have h1:=Int.fmod_nonneg_of_pos (-a) (b:=-b) ⋯
  have h2:=Int.fmod_lt_of_pos (-a) (b:=-b) ⋯
  omega
theorem fmod_lt(a:Int){b:Int}(h:b≠0):(a.fmod b).natAbs<b.natAbs:=by
  rcases Int.lt_or_gt_of_ne h with h | h
  · have h1:=ZeV a h
    omega
  · have h1:=Int.fmod_nonneg_of_pos a h
    have h2:=Int.fmod_lt_of_pos a h
    omega
theorem Zg7(a:Int){b:Int}(h:b≠0):(0<=b/\0<=a.fmod b)\/(b<=0/\a.fmod b<=0):=by
  rcases Int.lt_or_gt_of_ne h with h | h
  · exact .inr ⟨⋯,(ZeV a h).1⟩
  · exact .inl ⟨⋯,Int.fmod_nonneg_of_pos a h⟩
structure Sh (x y a u1 v1 b u2 v2:Int):Prop where
  ea:a=u1*x+v1*y
  eb:b=u2*x+v2*y
  g:Int.gcd a b=Int.gcd x y
  st:(a=x/\u1=1/\v1=0/\b=y/\u2=0/\v2=1) ∨
    (a≠0/\((0<=a/\0<=b)\/(a<=0/\b<=0))/\a.natAbs<=y.natAbs/\b.natAbs<=y.natAbs/\u1.natAbs<=y.natAbs/\v1.natAbs<=x.natAbs+2*y.natAbs ∧
      u2.natAbs*a.natAbs+u1.natAbs*b.natAbs<=y.natAbs/\v2.natAbs*a.natAbs+v1.natAbs*b.natAbs<=x.natAbs+2*y.natAbs)
theorem Sh.start(x y:Int):Sh x y x 1 0 y 0 1:=⟨⋯,⋯,rfl,.inl ⟨rfl,rfl,rfl,rfl,rfl,rfl⟩⟩
theorem Zc8{a b c:Nat}(h:a*b<=c)(hb:b≠0):a<=c:=Q0 (Nat.le_mul_of_pos_right a (Uk hb)) h
theorem Zpm{X Y:Nat}:X<=X+2*Y+1:=by omega
theorem Zj1{X Y:Nat}:Y<=X+2*Y+1:=by omega
theorem Zoi{X Y:Nat}:1<=X+2*Y+1:=by omega
theorem Zpn{X Y:Nat}(h:1<=Y):1<=X+2*Y:=by omega
theorem Sh.bound{x y a u1 v1 b u2 v2:Int}(h:Sh x y a u1 v1 b u2 v2) :
    a.natAbs<=x.natAbs+2*y.natAbs+1/\u1.natAbs<=x.natAbs+2*y.natAbs+1/\v1.natAbs<=x.natAbs+2*y.natAbs+1 ∧
    b.natAbs<=x.natAbs+2*y.natAbs+1/\u2.natAbs<=x.natAbs+2*y.natAbs+1/\v2.natAbs<=x.natAbs+2*y.natAbs+1:=by
  rcases h.st with ⟨rfl,rfl,rfl,rfl,rfl,rfl⟩ | ⟨ha,_,h1,h2,h3,h4,h5,h6⟩
  · exact ⟨Zpm,Zoi,Qh _,Zj1,Qh _,Zoi⟩
  · have ha':a.natAbs≠0:=Int.natAbs_ne_zero.mpr ha
    have k1:u2.natAbs<=y.natAbs:=Zc8 (b:=a.natAbs) (Q0 (Nat.le_add_right _ _) h5) ha'
    have k2:v2.natAbs<=x.natAbs+2*y.natAbs:=Zc8 (b:=a.natAbs) (Q0 (Nat.le_add_right _ _) h6) ha'
    exact ⟨Q0 h1 Zj1,Q0 h3 Zj1,Nat.le_succ_of_le h4,Q0 h2 Zj1,Q0 k1 Zj1,Nat.le_succ_of_le k2⟩
theorem rest_eq(a b:Int):a-a.fdiv b*b=a.fmod b:=by rw[Int.fmod_def,Qo]
theorem fdiv_small(a:Int){b:Int}(hb:b≠0):(a.fdiv b).natAbs<=a.natAbs+1:=by
  have e:=Int.mul_fdiv_add_fmod a b
  have l:=fmod_lt a hb
  have k:(b*a.fdiv b).natAbs=b.natAbs*(a.fdiv b).natAbs:=Qt ..
  have z:b*a.fdiv b=a-a.fmod b:=by omega
  have n1:b.natAbs*(a.fdiv b).natAbs<=a.natAbs+(b.natAbs-1):=by
    rw[<-k,z]
    have:=Int.natAbs_sub_le a (a.fmod b)
    omega
  generalize (a.fdiv b).natAbs=q at *
  generalize b.natAbs=c at *
  have hc:1<=c:=by omega
  rcases Uv (a.natAbs+1) q with h | h
  · have:c*(a.natAbs+2)<=c*q:=W6 c h
    have e2:c*(a.natAbs+2)=c*a.natAbs+c*2:=Nat.mul_add ..
    have e3:a.natAbs<=c*a.natAbs:=Nat.le_mul_of_pos_left _ hc
    omega
  · exact h
theorem Zm4{a b:Int}(h:(0<=a/\0<=b)\/(a<=0/\b<=0)):0<=a.fdiv b:=by
  rcases h with ⟨h1,h2⟩ | ⟨h1,h2⟩
  · exact Int.fdiv_nonneg h1 h2
  · rw[<-Int.neg_fdiv_neg]; exact Int.fdiv_nonneg ⋯ ⋯
theorem Zj2{a b:Int}(hb:b≠0)(h:(0<=a/\0<=b)\/(a<=0/\b<=0)):(a.fdiv b).natAbs*b.natAbs+(a.fmod b).natAbs=a.natAbs:=by
  have e:=Int.mul_fdiv_add_fmod a b
  have q:=Zm4 h
  have s:=Zg7 a hb
  rw[<-Qt,Qo]
  have pq:(0<=b/\0<=b*a.fdiv b)\/(b<=0/\b*a.fdiv b<=0):=by
    rcases h with ⟨h1,h2⟩ | ⟨h1,h2⟩
    · exact .inl ⟨h2,U9 h2 q⟩
    · refine .inr ⟨h2,?_⟩
      have:=U9 (show 0 <= -b by omega) q
      rw[Int.neg_mul] at this
      omega
  rcases pq with ⟨b1,p1⟩ | ⟨b1,p1⟩
  · rcases s with ⟨_,s1⟩ | ⟨b2,_⟩
    · rw[<-Int.natAbs_add_of_nonneg p1 s1,e]
    · exact absurd (Int.le_antisymm b2 b1) hb
  · rcases s with ⟨b2,_⟩ | ⟨_,s1⟩
    · exact absurd (Int.le_antisymm b1 b2) hb
    · rw[<-Int.natAbs_add_of_nonpos p1 s1,e]
theorem ZfS(u q v:Int):(u-q*v).natAbs<=u.natAbs+q.natAbs*v.natAbs:=by
  have:=Int.natAbs_sub_le u (q*v)
  rw[Qt] at this
  exact this
theorem Zix{u1 u2 q a b r u C:Nat}(hu:u<=u1+q*u2)(ha:q*b+r=a)(h:u2*a+u1*b<=C):u*b+u2*r<=C:=by
  have h1:u*b<=(u1+q*u2)*b:=W3 b hu
  have h2:(u1+q*u2)*b=u1*b+u2*(q*b):=by
    rw[Nat.add_mul,W7 q u2,Wb]
  have h3:u2*a=u2*(q*b)+u2*r:=by rw[<-ha,Nat.mul_add]
  omega
theorem Zlt{x y a b q u1 v1 u2 v2:Int}(ea:a=u1*x+v1*y)(eb:b=u2*x+v2*y):a-q*b=(u1-q*u2)*x+(v1-q*v2)*y:=by
  rw[ea,eb,Int.sub_mul,Int.sub_mul,Int.mul_add,Qr,Qr]
  omega
theorem Zoj{M A R B:Nat}(h:M<=A+R)(l:R<B):M+R<=A+2*B:=by omega
theorem Sh.turn{x y a u1 v1 b u2 v2:Int}(h:Sh x y a u1 v1 b u2 v2)(hb:b≠0) :
    Sh x y b u2 v2 (a-a.fdiv b*b) (u1-a.fdiv b*u2) (v1-a.fdiv b*v2):=by
  have er:=rest_eq a b
  refine ⟨h.eb,Zlt h.ea h.eb,?_,.inr ?_⟩
  · rw[er,fmod_gcd]; exact h.g
  · have lt:=fmod_lt a hb
    have sg:=Zg7 a hb
    rw[er]
    refine ⟨hb,sg,?_⟩
    rcases h.st with ⟨rfl,rfl,rfl,rfl,rfl,rfl⟩ | ⟨ha,hs,h1,h2,h3,h4,h5,h6⟩
    · have e0:(1:Int)-a.fdiv b*0=1:=by omega
      have e1:(0:Int)-a.fdiv b*1 = -(a.fdiv b):=by omega
      rw[e0,e1,Int.natAbs_neg]
      refine ⟨Q4 _,Ug lt,Qh _,Zpn (Uk (Int.natAbs_ne_zero.mpr hb)),?_,?_⟩
      · show 1*b.natAbs+0*(a.fmod b).natAbs<=b.natAbs
        rw[Uw,Nat.zero_mul]
        exact Q4 _
      · show (a.fdiv b).natAbs*b.natAbs+1*(a.fmod b).natAbs<=a.natAbs+2*b.natAbs
        have e:=Int.mul_fdiv_add_fmod a b
        have k:(b*a.fdiv b).natAbs=b.natAbs*(a.fdiv b).natAbs:=Qt ..
        have z:b*a.fdiv b=a-a.fmod b:=by omega
        rw[W7,<-k,z,Uw]
        exact Zoj (Int.natAbs_sub_le a (a.fmod b)) lt
    · have sp:=Zj2 hb hs
      have ha':a.natAbs≠0:=Int.natAbs_ne_zero.mpr ha
      have k1:u2.natAbs<=y.natAbs:=Zc8 (b:=a.natAbs) (Q0 (Nat.le_add_right _ _) h5) ha'
      have k2:v2.natAbs<=x.natAbs+2*y.natAbs:=Zc8 (b:=a.natAbs) (Q0 (Nat.le_add_right _ _) h6) ha'
      exact ⟨h2,Q0 (Ug lt) h2,k1,k2,Zix (ZfS ..) sp h5,Zix (ZfS ..) sp h6⟩
theorem Sh.done{x y a u1 v1 u2 v2:Int}(h:Sh x y a u1 v1 0 u2 v2):(a.natAbs:Int)=Int.gcd x y/\a=x*u1+y*v1:=by
  have g:=h.g
  rw[Int.gcd_zero_right] at g
  refine ⟨by rw[g],?_⟩
  rw[Qo x,Qo y]; exact h.ea
end M1
namespace M2
def Prm(n:Int):Prop:=2<=n/\∀d:Int,2<=d->d*d<=n->¬d ∣ n
theorem sq_mono{a b:Int}(ha:0<=a)(h:a<=b):a*a<=b*b:=Int.mul_le_mul h h ha ⋯
theorem Zm5:Prm 2:=⟨⋯,λd h1 h2=>by have:=sq_mono (a:=2) ⋯ h1; omega⟩
theorem Zlu{n:Int}(h:2<=n)(h2:n≠2)(e:n%2=0):¬Prm n:=λp=>p.2 2 ⋯ ⋯ (Int.dvd_of_emod_eq_zero e)
theorem prm_even{n:Int}(h:2<=n)(e:n%2=0):Prm n↔n=2:=by
  constructor
  · intro p
    refine Decidable.byContradiction λz=>Zlu h z e p
  · rintro rfl
    exact Zm5
def No(n t:Int):Prop:=∀d:Int,2<=d->d<t->¬d ∣ n
theorem No.odd{n:Int}(e:¬n%2=0):No n 3:=λd h1 h2 hd=>by
  have:d=2:=by omega
  subst this
  exact e (Wz hd)
theorem No.two{n:Int}:No n 2:=λd h1 h2=>by omega
theorem No.one{n t:Int}(h:No n t)(hn:¬t ∣ n):No n (t+1):=λd h1 h2=>by
  rcases (by omega:d<t\/d=t) with z | z
  · exact h d h1 z
  · rw[z]; exact hn
theorem No.next{n t:Int}(h:No n t)(e:¬n%2=0)(ho:t%2=1)(hn:¬t ∣ n):No n (t+2):=λd h1 h2 hd=>by
  rcases (by omega:d<t\/d=t\/d=t+1) with z | z | z
  · exact h d h1 z hd
  · rw[z] at hd; exact hn hd
  · have h2d:(2:Int) ∣ d:=Int.dvd_of_emod_eq_zero ⋯
    exact e (Wz (Int.dvd_trans h2d hd))
theorem No.done{n t:Int}(h:No n t)(h2:2<=n)(ht:0<=t)(hl:¬t*t<=n):Prm n:=⟨h2,λd h1 hd=>h d h1 (by
  refine Ux λz=>hl ?_
  exact Int.le_trans (sq_mono ht z) hd)⟩
theorem found{n t:Int}(ht:2<=t)(hl:t*t<=n)(hd:t ∣ n):¬Prm n:=λp=>p.2 t ht hl hd
theorem le_of_sq{n t:Int}(ht:2<=t)(hl:t*t<=n):t+t<=n:=by
  have:t*2<=t*t:=Int.mul_le_mul_of_nonneg_left ht ⋯
  omega
theorem fmod_dvd{n t:Int}(ht:0<t):n.fmod t=0↔t ∣ n:=by
  rw[W5 n ⋯]
  exact ⟨Int.dvd_of_emod_eq_zero,Wz⟩
theorem Zj3:∀d:Nat,d<1000->2<=d->999983%d≠0:=by decide +kernel
theorem prm_big:Prm 999983:=by
  refine ⟨⋯,λd h1 h2 hd=>?_⟩
  have hl:d<1000:=by
    refine Ux λz=>?_
    have:=sq_mono (a:=1000) ⋯ z
    omega
  have e:=Wz hd
  refine Zj3 d.toNat ⋯ ⋯ ?_
  have ed:d=(d.toNat:Int):=by omega
  rw[ed] at e
  have e2:((999983%d.toNat:Nat):Int)=0:=by rw[Wm]; exact e
  exact Int.natCast_eq_zero.mp e2
theorem Zm6{p d:Int}(h:Prm p)(h1:1<d)(hd:d ∣ p):d=p:=by
  obtain ⟨k,hk⟩:=hd
  have hp:=h.1
  refine Decidable.byContradiction λz=>?_
  have kpos:0<k:=by
    refine Ux λq=>?_
    have:=U9 (show 0<=d by omega) (show 0 <= -k by omega)
    rw[Ww] at this
    omega
  have k1:k≠1:=λq=>z (by rw[hk,q,U8])
  rcases (by omega:d<=k\/k<=d) with q | q
  · exact h.2 d ⋯ (by rw[hk]; exact Int.mul_le_mul_of_nonneg_left q ⋯) ⟨k,hk⟩
  · exact h.2 k ⋯ (by rw[hk]; exact Int.mul_le_mul_of_nonneg_right q ⋯) ⟨d,by rw[hk,Qo]⟩
theorem prm_gcd{p b:Int}(h:Prm p)(hb:¬p ∣ b):Int.gcd b p=1:=by
  have h1:=W4 b p
  have h2:=Wx b p
  have hp:=h.1
  have hne:Int.gcd b p≠0:=λz=>by
    rw[z] at h1
    have:=Int.zero_dvd.mp h1
    omega
  refine Decidable.byContradiction λz=>hb ?_
  have e:=Zm6 h (show (1:Int)<(Int.gcd b p:Int) by omega) h1
  rw[e] at h2
  exact h2
end M2
namespace M3
theorem Zb0{a b c:Int}(h1:Int.gcd a c=1)(h2:Int.gcd b c=1):Int.gcd (a*b) c=1:=by
  rw[Int.gcd_eq_natAbs_gcd_natAbs] at *
  rw[Qt]
  exact Nat.Coprime.mul_left h1 h2
theorem Zc9{a b:Int}(h:Int.gcd a b=1):Int.gcd b a=1:=by rw[Uu]; exact h
theorem ZbO{a b c:Int}(h1:Int.gcd c a=1)(h2:Int.gcd c b=1):Int.gcd c (a*b)=1:=Zc9 (Zb0 (Zc9 h1) (Zc9 h2))
theorem Zlv{a b c:Int}(h:Int.gcd (a*b) c=1):Int.gcd a c=1:=by
  rw[Int.gcd_eq_natAbs_gcd_natAbs] at *
  rw[Qt] at h
  exact Nat.Coprime.coprime_dvd_left ⟨b.natAbs,rfl⟩ h
theorem ZcM{a b c:Int}(h:Int.gcd (a*b) c=1):Int.gcd b c=1:=Zlv (b:=a) (by rw[Qo]; exact h)
theorem Zda{a b c:Int}(h:Int.gcd c (a*b)=1):Int.gcd c b=1:=Zc9 (ZcM (Zc9 h))
theorem Zg8{a b:Int}(hb:Int.gcd a b≠0):∃x y:Int,a=(Int.gcd a b:Int)*x/\b=(Int.gcd a b:Int)*y/\Int.gcd x y=1:=by
  obtain ⟨x,hx⟩:=Wx a b
  obtain ⟨y,hy⟩:=W4 a b
  refine ⟨x,y,hx,hy,?_⟩
  have e:Int.gcd ((Int.gcd a b:Int)*x) ((Int.gcd a b:Int)*y)=Int.gcd a b*Int.gcd x y:=by
    rw[Int.gcd_mul_left]
    simp
  rw[<-hx,<-hy] at e
  have e2:Int.gcd a b*Int.gcd x y=Int.gcd a b*1:=by omega
  exact Nat.eq_of_mul_eq_mul_left (Uk hb) e2
theorem gcd_ne{a b:Int}(h:b≠0):Int.gcd a b≠0:=λz=>h (Int.gcd_eq_zero_iff.mp z).2
theorem Zbm{g x:Int}(hg:g≠0):(g*x).fdiv g=x:=Int.mul_fdiv_cancel_left x hg
theorem ZeW{g x:Int}(hg:0<g)(h:0<g*x):0<x:=by
  refine Ux λz=>?_
  have:=U9 (Int.le_of_lt hg) (show 0 <= -x by omega)
  rw[Ww] at this
  omega
theorem low{t b:Int}(hb:0<b):Int.gcd (t.fdiv (Int.gcd t b)) (b.fdiv (Int.gcd t b))=1/\0<b.fdiv (Int.gcd t b)/\t.fdiv (Int.gcd t b)*b=t*b.fdiv (Int.gcd t b) ∧
    (t.fdiv (Int.gcd t b)).natAbs<=t.natAbs/\(b.fdiv (Int.gcd t b)).natAbs<=b.natAbs:=by
  have hg:=gcd_ne (a:=t) (b:=b) ⋯
  obtain ⟨x,y,hx,hy,c⟩:=Zg8 hg
  generalize Int.gcd t b=g at *
  have hg':(g:Int)≠0:=by omega
  subst hx hy
  rw[Zbm hg',Zbm hg']
  have yp:=ZeW (show (0:Int)<g by omega) hb
  refine ⟨c,yp,by ac_rfl,?_,?_⟩
  · rw[Qt]; exact Nat.le_mul_of_pos_left _ ⋯
  · rw[Qt]; exact Nat.le_mul_of_pos_left _ ⋯
theorem Zi6(g x:Int)(hg:g≠0):x.natAbs<=(g*x).natAbs:=by
  rw[Qt]; exact Nat.le_mul_of_pos_left _ ⋯
theorem plus_ok{a1 b1 a2 b2:Int}(h1:0<b1)(h2:0<b2)(c1:Int.gcd a1 b1=1)(c2:Int.gcd a2 b2=1){top:Int}
    (ht:top=a1*b2.fdiv (Int.gcd b1 b2)+a2*b1.fdiv (Int.gcd b1 b2)) :
    Int.gcd top (Int.gcd b1 b2)≠0/\0<b1.fdiv (Int.gcd b1 b2)*b2.fdiv (Int.gcd top (Int.gcd b1 b2)) ∧
    Int.gcd (top.fdiv (Int.gcd top (Int.gcd b1 b2))) (b1.fdiv (Int.gcd b1 b2)*b2.fdiv (Int.gcd top (Int.gcd b1 b2)))=1 ∧
    top.fdiv (Int.gcd top (Int.gcd b1 b2))*(b1*b2)=(a1*b2+a2*b1)*(b1.fdiv (Int.gcd b1 b2)*b2.fdiv (Int.gcd top (Int.gcd b1 b2))):=by
  have hg:=gcd_ne (a:=b1) (b:=b2) ⋯
  obtain ⟨p,q,hp,hq,cpq⟩:=Zg8 hg
  generalize hG:Int.gcd b1 b2=g at *
  have hg':(g:Int)≠0:=by omega
  have e1:b1.fdiv g=p:=by rw[hp]; exact Zbm hg'
  have e2:b2.fdiv g=q:=by rw[hq]; exact Zbm hg'
  rw[e1,e2] at ht
  rw[e1]
  have hl:=gcd_ne (a:=top) (b:=(g:Int)) hg'
  obtain ⟨t,r,ht2,hr,ctr⟩:=Zg8 hl
  generalize hL:Int.gcd top g=l at *
  have hl':(l:Int)≠0:=by omega
  have e3:top.fdiv l=t:=by rw[ht2]; exact Zbm hl'
  have e4:b2=l*(r*q):=by rw[hq,hr]; ac_rfl
  have e5:b2.fdiv l=r*q:=by rw[e4]; exact Zbm hl'
  rw[e3,e5]
  have pp:0<p:=ZeW (show (0:Int)<g by omega) (by rw[<-hp]; exact h1)
  have rq:0<r*q:=ZeW (show (0:Int)<l by omega) (by rw[<-e4]; exact h2)
  have tp:Int.gcd top p=1:=by
    rw[ht,Int.gcd_add_mul_right_left]
    exact Zb0 (Zda (a:=g) (by rw[<-hp]; exact c1)) (Zc9 cpq)
  have tq:Int.gcd top q=1:=by
    rw[ht,Int.add_comm,Int.gcd_add_mul_right_left]
    exact Zb0 (Zda (a:=g) (by rw[<-hq]; exact c2)) cpq
  rw[ht2] at tp tq
  refine ⟨hl,Qp pp rq,ZbO (ZcM tp) (ZbO ctr (ZcM tq)),?_⟩
  have k1:a1*b2+a2*b1=g*(l*t):=by
    rw[<-ht2,ht,Int.mul_add,hp,hq]
    congr 1 <;> ac_rfl
  rw[k1,hp,hq]
  have k2:(g:Int)*(l*t)*(p*(r*q))=g*t*p*q*(l*r):=by ac_rfl
  rw[k2,<-hr]
  ac_rfl
theorem times_ok{a1 b1 a2 b2:Int}(h1:0<b1)(h2:0<b2)(c1:Int.gcd a1 b1=1)(c2:Int.gcd a2 b2=1) :
    0<b1.fdiv (Int.gcd a2 b1)*b2.fdiv (Int.gcd a1 b2) ∧
    Int.gcd (a1.fdiv (Int.gcd a1 b2)*a2.fdiv (Int.gcd a2 b1)) (b1.fdiv (Int.gcd a2 b1)*b2.fdiv (Int.gcd a1 b2))=1 ∧
    a1.fdiv (Int.gcd a1 b2)*a2.fdiv (Int.gcd a2 b1)*(b1*b2)=a1*a2*(b1.fdiv (Int.gcd a2 b1)*b2.fdiv (Int.gcd a1 b2)):=by
  have hf:=gcd_ne (a:=a1) (b:=b2) ⋯
  have hr:=gcd_ne (a:=a2) (b:=b1) ⋯
  obtain ⟨x,y,hx,hy,cxy⟩:=Zg8 hf
  obtain ⟨z,w,hz,hw,czw⟩:=Zg8 hr
  generalize Int.gcd a1 b2=f at *
  generalize Int.gcd a2 b1=r at *
  have hf':(f:Int)≠0:=by omega
  have hr':(r:Int)≠0:=by omega
  have e1:a1.fdiv f=x:=by rw[hx]; exact Zbm hf'
  have e2:b2.fdiv f=y:=by rw[hy]; exact Zbm hf'
  have e3:a2.fdiv r=z:=by rw[hz]; exact Zbm hr'
  have e4:b1.fdiv r=w:=by rw[hw]; exact Zbm hr'
  rw[e1,e2,e3,e4]
  have yp:=ZeW (show (0:Int)<f by omega) (by rw[<-hy]; exact h2)
  have wp:=ZeW (show (0:Int)<r by omega) (by rw[<-hw]; exact h1)
  rw[hx,hw] at c1
  rw[hz,hy] at c2
  refine ⟨Qp wp yp,Zb0 (ZbO (Zda (ZcM c1)) cxy) (ZbO czw (Zda (ZcM c2))),?_⟩
  rw[hx,hy,hz,hw]
  ac_rfl
theorem fdiv_le{a:Int}{g:Int}(h:g ∣ a)(hg:g≠0):(a.fdiv g).natAbs<=a.natAbs:=by
  obtain ⟨x,rfl⟩:=h
  rw[Zbm hg]
  exact Zi6 g x hg
end M3
namespace L2
open PySem PySem.Spec PyProof.Rows
structure XCls (K:PySem.W.Frag) (C:Addr):Prop where
  ga:PySem.W.findIn K (.ref C) "__getattribute__" = some (some (.builtin "BaseException.__getattribute__"))
  ha:PySem.W.findIn K (.ref C) "__getattr__" = some none
  cl:PySem.W.findIn K (.ref C) "__class__" = some (some (.builtin "object.__class__"))
  hn:PySem.W.specialIn K (.builtin "object.__class__") "__get__" = some (some (.builtin "getset_descriptor.__get__"))
  tk:PySem.W.takesIn K (.builtin "object.__class__")=some true
  ob:PySem.W.mroIn K C (.type "object")=some true
  be:PySem.W.mroIn K C (.type "BaseException")=some true
  hd:PySem.W.hasDictIn K C=true
section
variable{prog:Program}{w:World}{A:Around}{E:Value->Shared->Prop}{s:Shared}{K:PySem.W.Frag}{x C:Addr}{ox:Obj}{od:Option Obj}
theorem ZhC{K:PySem.W.Frag}{C:Addr}{od:Option Obj}{name:Str}{a g:Value}(hc:(PySem.W.clsIn K C).isSome=true)(ha:PySem.W.findIn K (.ref C) name=some (some a))(hg:PySem.W.specialIn K a "__get__" = some (some g)) (ht:PySem.W.takesIn K a=some true) :
    PySem.W.findObj K C od name=some (.bind g a):=by
  obtain ⟨cd,hc⟩:=Option.isSome_iff_exists.mp hc
  unfold PySem.W.findObj
  rw[hc,Option.bind_some,ha,Option.bind_some]
  simp[hg,ht]
theorem Zj4(c:XCls K C){tk:Tok}{R:Result->Shared->Prop}(X:K.In s.heap)(I:PySem.W.InstAt s.heap x ox C od)(h:R (.ok (.ret (.ref C))) s) :
    codeAny (model prog w) A (.call (.builtin "BaseException.__getattribute__") ⟨[.ref x,.str "__class__" tk],[]⟩) R s:=by
  have hf:PySem.W.findObj K C od "__class__" = some (.bind (.builtin "getset_descriptor.__get__") (.builtin "object.__class__")):=ZhC (by obtain ⟨cd,hc,_⟩:=PySem.W.any_some c.hd; rw[hc]; rfl) c.cl c.hn c.tk
  obtain ⟨hh,gg,d,t,os⟩:=s
  have L0:=I.type (M:=model prog w)
  have LF:=PySem.W.looks_find (M:=model prog w) X I hf
  have LB:PySem.W.Looks (model prog w) hh (isInstance (.ref x) (.type "BaseException")) true:=L0.andThen (PySem.W.looks_mroIn X c.be)
  have LG:=PySem.W.looks_mroIn (M:=model prog w) X c.be
  refine codeAny_call_builtin F.excAttr_ValueError.ga.plain F.entry_bexc_ga ?_
  have hk:builtinKind "BaseException.__getattribute__" = some .slot:=by decide +kernel
  have hsplit:splitId "BaseException.__getattribute__" = some ("BaseException", "__getattribute__"):=by decide +kernel
  have ha:=F.args_bexc_ga (.ref x) (.str "__class__" tk)
  simp only[checkBuiltinCall,hk,hsplit]
  refine wpAny_bind (LB.at ?_)
  simp only[Bool.not_true,Bool.false_eq_true,if_false]
  refine wpAny_of_eq ha ?_
  refine wpAny_bind (wpAny_pure (wpAny_bind (wpAny_pure (wpAny_bind (L0.at (wpAny_bind (LF.at ?_)))))))
  show wpAny _ _ (holding [Value.builtin "object.__class__"] (call (.builtin "getset_descriptor.__get__") [.builtin "object.__class__", .ref x,.ref C]) >>= ret) _ _ _
  exact wpAny_bind (wpAny_holding (wpAny_call (PySem.W.class_get (s:=⟨hh,gg,d,t,os⟩) X I c.ob (wpAny_pure h))))
theorem Zj5(c:XCls K C){Q:Option Value->Shared->Prop}(X:K.In s.heap)(I:PySem.W.InstAt s.heap x ox C od)(h:Q (some (.ref C)) { s with toks:=s.toks+1 }):wpAny (model prog w) A (getAttr? (.ref x) "__class__") Q E s:=by
  have L0:=I.type (M:=model prog w)
  have L1:=PySem.W.looks_findIn (M:=model prog w) X c.ga
  have L3:=PySem.W.looks_findIn (M:=model prog w) X c.ha
  obtain ⟨hh,g,d,t,os⟩:=s
  unfold getAttr? getAttrBy? getAttrBy
  refine wpAny_bind (wpAny_mkText (wpAny_bind (wpAny_attempt (wpAny_holding (wpAny_bind (L0.at (wpAny_bind (L1.at ?_))))))))
  show wpAny _ _ (getAttrByItsOwn _ _ _ _ _ _) _ _ _
  unfold getAttrByItsOwn
  refine wpAny_bind (L3.at ?_)
  refine wpAny_bind (wpAny_attempt (wpAny_holding ?_))
  show wpAny _ _ (boundAndCalled _ _ _) _ _ _
  unfold boundAndCalled
  refine wpAny_bind (wpAny_of_eq (F.excAttr_ValueError.ga.bind (.ref x)) ?_)
  refine wpAny_call (Zj4 (s:=⟨hh,g,d,t+1,os⟩) c X I ?_)
  exact PySem.W.handed_on rfl (wpAny_pure h)
theorem Zlw(c:XCls K C):PySem.W.KitX K (.ref x) (.ref C) (λh=>∃ox od,PySem.W.InstAt h x ox C od) where
  ty:=λ_ _ _ ⟨_,_,I⟩=>I.type
  it:=λ_ _ X _=>by
    obtain ⟨cdD,hcD,_⟩:=PySem.W.any_some c.hd
    unfold PySem.W.clsIn at hcD
    split at hcD
    · rename_i c' d' cd' sl' ho
      intro A' Q' E' s' k q
      unfold isType loadHead
      exact wpAny_bind (wpAny_loadPart (k _ _ (X _ _ ho)) (wpAny_pure q))
    · cases hcD
  ne:=λh tp dd its n sl X htp=>by
    obtain ⟨cdD,hcD,_⟩:=PySem.W.any_some c.hd
    refine Bool.eq_false_iff.mpr λq=>?_
    have e:C=tp:=Value.ref.inj (beq_iff_eq.mp q)
    subst e
    unfold PySem.W.clsIn at hcD
    split at hcD
    · rename_i c' d' cd' sl' ho
      exact nomatch (X _ _ ho).symm.trans htp
    · cases hcD
  ca:=λX ⟨_,_,I⟩ k=>Zj5 c X I k
end
end L2
namespace L2
open PySem PySem.Spec PyProof.Rows
def Tr(h B:Heap)(e:Addr)(cls a0:Value)(dd:Option Addr)(fl:Value):Prop :=
  ∃oe vs T oT ts,h.get? e=some oe/\oe.cls=cls/\oe.dict=dd/\oe.data = .fields vs/\vs[0]?=some a0/\vs[1]?=some (.ref T)/\B.get? T=none/\T≠e/\h.get? T=some oT/\oT.data = .fields ts/\ts[3]?=some fl
theorem Zfx(o:Obj)(f):(o.mapFields f).dict=o.dict:=by
  obtain ⟨c,d,dt,sl⟩:=o
  cases dt <;> rfl
theorem Zcp{h:Heap}{a:Addr}{o:Obj}{vs:Array Value}(f:Array Value->Array Value)(ho:h.get? a=some o)(hd:o.data = .fields vs):h.UpToSlots (h.update a (Obj.mapFields f)):=λb u e n =>
  ⟨u.slots,by
    rw[Heap.get?_update_other _ _ λz=>by subst z; rw[ho] at e; cases e; exact n vs hd]
    exact e⟩
theorem ZdI{h h' B:Heap}{l:List Env}(u:h.UpToSlots h')(f:h.FunFrames B l):h'.FunFrames B l:=f.of_keeps λb o e n=>let ⟨sl,q⟩:=u b o e n; ⟨_,q,rfl⟩
section
variable{M:Model}{A:Around}{E:Value->Shared->Prop}{s:Shared}{B:Heap}{env:Env}{outer:List Env}{L e:Addr}{oe:Obj}{vs:Array Value}{cls a0:Value}{dd:Option Addr}{Q:Unit->Shared->Prop}
theorem Zg9{hd0:Value}{hn:Bool}(hfr:A.frames=some (env::outer))(fl:s.heap.FunFrames B (env::outer))(hf:env.frame=some L)(he:s.heap.get? e=some oe)(st:B.StaysIn s.heap)(nb:B.get? e=none)(hd:oe.data = .fields vs)
    (h0:vs[0]?=some a0) (hz:1<vs.size) (k:∀h',B.StaysIn h'->h'.FunFrames B (env::outer)->Tr h' B e oe.cls a0 oe.dict (rawInt L)->s.heap.UpToSlots h'->Q () { s with heap:=h' }) :
    wpAny M A (do let a ← frameOf env; let pl ← entryPlaceOf L hn; let b ← EntryCells.newEntry hd0 a .none (rawInt L) .none pl; setField (.ref e) 1 b) Q E s:=by
  have notf:e∉(env::outer).filterMap (·.frame):=λhm=>by
    obtain ⟨_,o,ho,n⟩:=fl.mem hm
    rw[he] at ho; cases ho; exact n vs hd
  refine wpAny_bind (wpAny_frameOf_fun hfr fl hf λh1 so=>wpAny_bind (wpAny_entryPlaceOf λpl hpl=>?_))
  have u1:s.heap.UpToSlots h1:=λb o q _=>so.2.2 b o q
  have st1:B.StaysIn h1:=λb o q=>(so.2.1 b λhm=>by rw[(fl.mem hm).1] at q; cases q).trans (st b o q)
  have he1:h1.get? e=some oe:=(so.2.1 e notf).trans he
  unfold EntryCells.newEntry newFields
  refine wpAny_bind (wpAny_newObj_type ?_ (hpl.sizeOk5 _ _ _ _ _))
  generalize ht:([hd0,Value.ref L,.none,rawInt L,.none]++(if pl.isEmpty then List.replicate 6 Value.none else pl)).toArray=ts
  have ht3:ts[3]?=some (rawInt L):=by rw[<-ht]; simp
  have he2:=Heap.get?_push_of_some (h:=h1) { cls:=.type "traceback", dict:=none,data:=.fields ts } he1
  refine wpAny_setField he2 hd hz (k _ ?_ ?_ ?_ ?_)
  · intro b o q
    rw[Heap.get?_update_other _ _ λz=>by subst z; rw[nb] at q; cases q]
    exact Heap.get?_push_of_some _ (st1 b o q)
  · exact ZdI ((u1.trans (.of_keeps λb o q=>Heap.get?_push_of_some _ q)).trans (Zcp _ he2 hd)) fl
  · have nT:h1.objs.size≠e:=Up (Heap.lt_size he1)
    refine ⟨_,_,h1.objs.size,{ cls:=.type "traceback", dict:=none,data:=.fields ts },ts,Heap.get?_update_self _ he2 (Obj.isFreed_of_fields (Obj.data_mapFields hd _)),Obj.cls_mapFields _ _,Zfx _ _,Obj.data_mapFields hd _,?_,?_,st1.fresh,nT,?_,rfl,ht3⟩
    · rw[Array.getElem?_setIfInBounds_ne ∅]; exact h0
    · simp[hz]
    · rw[Heap.get?_update_other _ _ (Ne.symm nT)]
      exact Heap.get?_push_size h1 rfl
  · exact (u1.trans (.of_keeps λb o q=>Heap.get?_push_of_some _ q)).trans (Zcp _ he2 hd)
theorem Zi7(hfr:A.frames=some (env::outer))(fl:s.heap.FunFrames B (env::outer))(hf:env.frame=some L)(he:s.heap.get? e=some oe)(st:B.StaysIn s.heap)(nb:B.get? e=none)(hd:oe.data = .fields vs)
    (h0:vs[0]?=some a0) (h1:vs[1]?=some .none) (k:∀h',B.StaysIn h'->h'.FunFrames B (env::outer)->Tr h' B e oe.cls a0 oe.dict (rawInt L)->s.heap.UpToSlots h'->Q () { s with heap:=h' }) :
    wpAny M A (noteFrame (.ref e) env) Q E s:=by
  unfold noteFrame
  simp only[hf]
  refine wpAny_bind (wpAny_field he hd h1 ?_)
  rw[if_neg ∅]
  exact Zg9 hfr fl hf he st nb hd h0 (Array.getElem?_eq_some_iff.mp h1).1 k
theorem Zj6(hfr:A.frames=some (env::outer))(fl:s.heap.FunFrames B (env::outer))(hf:env.frame=some L)(tr:Tr s.heap B e cls a0 dd .none)(st:B.StaysIn s.heap)(nb:B.get? e=none)
    (k:∀h',B.StaysIn h'->h'.FunFrames B (env::outer)->Tr h' B e cls a0 dd (rawInt L)->s.heap.UpToSlots h'->Q () { s with heap:=h' }):wpAny M A (noteFrame (.ref e) env) Q E s:=by
  obtain ⟨oe,vs,T,oT,ts,he,rfl,rfl,hd,h0,h1,nT,hTe,hT,hdT,h3⟩:=tr
  unfold noteFrame
  simp only[hf]
  refine wpAny_bind (wpAny_field he hd h1 ?_)
  rw[if_pos (show (Value.ref T != Value.none)=true from by simp)]
  refine wpAny_bind (wpAny_field hT hdT h3 ?_)
  rw[if_neg (show ¬((Value.none==rawInt L)=true) from by simp[rawInt])]
  have u:=Zcp (·.setIfInBounds 3 Value.none) hT hdT
  refine wpAny_bind (wpAny_setField hT hdT (Array.getElem?_eq_some_iff.mp h3).1 (Zg9 (s:={ s with heap:=s.heap.update T (Obj.mapFields (·.setIfInBounds 3 Value.none)) }) hfr (ZdI u fl) hf (by rw[Heap.get?_update_other _ _ hTe]; exact he) (λb o q=>?_) nb hd h0 (Array.getElem?_eq_some_iff.mp h1).1 λh' a b c d=>k h' a b c (u.trans d)))
  rw[Heap.get?_update_other _ _ λz=>by subst z; rw[nT] at q; cases q]
  exact st b o q
theorem Zlx{fl0:Value}{l:List Env}(fl:s.heap.FunFrames B l)(tr:Tr s.heap B e cls a0 dd fl0)(st:B.StaysIn s.heap)
    (k:∀h',B.StaysIn h'->h'.FunFrames B l->Tr h' B e cls a0 dd .none->s.heap.UpToSlots h'->Q () { s with heap:=h' }):wpAny M A (setFlight (.ref e) none) Q E s:=by
  obtain ⟨oe,vs,T,oT,ts,he,rfl,rfl,hd,h0,h1,nT,hTe,hT,hdT,h3⟩:=tr
  have h3':3<ts.size:=(Array.getElem?_eq_some_iff.mp h3).1
  have u:=Zcp (·.setIfInBounds 3 ((none:Option Addr).elim Value.none λf=>rawInt f)) hT hdT
  unfold setFlight
  refine wpAny_bind (wpAny_field he hd h1 ?_)
  rw[if_pos (show (Value.ref T != Value.none)=true from by simp)]
  refine wpAny_setField hT hdT h3' (k _ (λb o q=>?_) (ZdI u fl) ⟨oe,vs,T,_,_,?_,rfl,rfl,hd,h0,h1,nT,hTe,Heap.get?_update_self _ hT (Obj.isFreed_of_fields (Obj.data_mapFields hdT _)),Obj.data_mapFields hdT _,by simp[h3']⟩ u)
  · rw[Heap.get?_update_other _ _ λz=>by subst z; rw[nT] at q; cases q]
    exact st b o q
  · rw[Heap.get?_update_other _ _ hTe]; exact he
end
end L2
namespace L2
open PySem PySem.Spec PyProof.Rows
structure Air (P:Program) (w:World) (B:Heap) (l:List Env) (H:Hp) (h:Heap) (e t:Addr) (cls:Value) (dd:Option Addr) (fl:Value):Prop where
  hok:HOk P w H h
  st:B.StaysIn h
  nb:B.get? e=none
  fr:h.FunFrames B l
  tr:Tr h B e cls (.ref t) dd fl
  tk:∀b u,H b=some u->∃o,B.get? b=some o
theorem Air.free{P:Program}{w:World}{B:Heap}{l:List Env}{H:Hp}{h:Heap}{e t:Addr}{cls:Value}{dd:Option Addr}{fl:Value}(a:Air P w B l H h e t cls dd fl):H e=none:=by
  cases q:H e with
  | none=>rfl
  | some u=>obtain ⟨o,z⟩:=a.tk e u q; rw[a.nb] at z; cases z
theorem Zj7{P:Program}{w:World}{B:Heap}{H:Hp}{h h':Heap}(x:HOk P w H h)(st:B.StaysIn h)(st':B.StaysIn h')(tk:∀b u,H b=some u->∃o,B.get? b=some o):HOk P w H h':=λa o e =>
  (x a o e).stay (λb u hb q=>by
    have:∃v,H b=some v:=by
      rcases hb with rfl | hb
      · exact ⟨o,e⟩
      · exact ⟨_,hb⟩
    obtain ⟨v,hv⟩:=this
    obtain ⟨ob,z⟩:=tk b v hv
    have e2:=(st b ob z).symm.trans q
    cases e2
    exact st' b _ z) (λ_ q=>q) λ_ _ q=>q
def CXx(P:Program)(w:World):CXT:=λouter H s E ev s' =>
  ∃(e t:Addr) (cls:Value) (dd:Option Addr) (H':Hp) (B:Heap),ev = .ref e/\s'.os=s.os/\AllBare s'.gens/\Un (frs outer) [] H H' s.heap s'.heap/\Air P w B outer H' s'.heap e t cls dd .none ∧
    (∀b o,s.heap.get? b=some o->H b=none->b∉frs outer->B.get? b=some o)/\(∀b o,s.heap.get? b=some o->b∉frs outer->∃o',B.get? b=some o')/\E cls dd H'
section
variable{M:Model}{A:Around}{E:Value->Shared->Prop}{s:Shared}{P:Program}{w:World}{B:Heap}{env:Env}{outer:List Env}{H:Hp}{L e t:Addr}{cls:Value}{dd:Option Addr}{fl:Value}{Q:Unit->Shared->Prop}{B0:Heap}
theorem Air.note(a:Air P w B (env::outer) H s.heap e t cls dd .none)(hfr:A.frames=some (env::outer))(hf:env.frame=some L)(k:∀h',Air P w B (env::outer) H h' e t cls dd (rawInt L)->s.heap.UpToSlots h'->Q () { s with heap:=h' }) :
    wpAny M A (noteFrame (.ref e) env) Q E s :=
  Zj6 hfr a.fr hf a.tr a.st a.nb λh' st fr tr up=>k h' ⟨Zj7 a.hok a.st st a.tk,st,a.nb,fr,tr,a.tk⟩ up
theorem Air.off{l:List Env}(a:Air P w B l H s.heap e t cls dd fl)(k:∀h',Air P w B l H h' e t cls dd .none->s.heap.UpToSlots h'->Q () { s with heap:=h' }):wpAny M A (setFlight (.ref e) none) Q E s :=
  Zlx a.fr a.tr a.st λh' st fr tr up=>k h' ⟨Zj7 a.hok a.st st a.tk,st,a.nb,fr,tr,a.tk⟩ up
theorem Air.leave(a:Air P w B (env::outer) H s.heap e t cls dd .none)(hfr:A.frames=some (env::outer))(hf:env.frame=some L)(k:∀h',Air P w B outer H h' e t cls dd .none->s.heap.UpToSlots h'->Q () { s with heap:=h' }) :
    wpAny M A (leaving env (.ref e)) Q E s:=by
  unfold leaving
  refine wpAny_bind (a.note hfr hf λh1 a1 u1=>?_)
  refine Air.off (s:={ s with heap:=h1 }) a1 λh2 a2 u2=>?_
  obtain ⟨_,_,fr⟩:=a2.fr
  exact k h2 ⟨a2.hok,a2.st,a2.nb,fr,a2.tr,a2.tk⟩ (u1.trans u2)
theorem Zm7{s0:Heap}{vs:List Value}(hok:HOk P w H s0)(fl0:s0.FunFrames B0 (env::outer))(hm:Heap.MadeExcOf s0 s.heap e cls vs)(hn:∀b∈frs (env::outer),H b=none)(hfr:A.frames=some (env::outer))(hf:env.frame=some L)
    (k:∀h' t,Air P w (PySem.W.hideAll s0 (frs (env::outer))) (env::outer) H h' e t cls none (rawInt L)->s0.UpToSlots h'->Q () { s with heap:=h' }):wpAny M A (noteFrame (.ref e) env) Q E s:=by
  obtain ⟨t,he,_,_⟩:=hm.there
  have st0:(PySem.W.hideAll s0 (frs (env::outer))).StaysIn s0:=λb o q=>PySem.W.of_hideAll _ q
  have st:(PySem.W.hideAll s0 (frs (env::outer))).StaysIn s.heap:=λb o q=>hm.keeps b o (st0 b o q)
  have tk:∀b u,H b=some u->∃o,(PySem.W.hideAll s0 (frs (env::outer))).get? b=some o:=λb u q=>by
    have lt:=hok.lt q
    obtain ⟨o,ho⟩:∃o,s0.get? b=some o:=by
      have x:=hok b u q
      cases u with
      | lst xs=>obtain ⟨_,_,_,_,z⟩:=x; exact ⟨_,z⟩
      | tup xs=>obtain ⟨_,_,_,o,z,_⟩:=x; exact ⟨_,z⟩
      | dK kvs=>obtain ⟨_,_,_,_,o,_,_,z,_⟩:=x; exact ⟨_,z⟩
      | dT kvs=>obtain ⟨_,_,_,_,o,_,_,z,_⟩:=x; exact ⟨_,z⟩
      | set S n=>obtain ⟨o,_,_,_,z,_⟩:=x; exact ⟨_,z⟩
      | ins C dx fs=>obtain ⟨_,_,_,z,_⟩:=x; exact ⟨_,z⟩
      | own y=>obtain ⟨_,z⟩:=x; exact ⟨_,z⟩
      | xd fs=>obtain ⟨_,⟨_,_,_,z,_⟩,_⟩:=x; exact ⟨_,z⟩
      | rng lo hi=>obtain ⟨_,_,_,z⟩:=x; exact ⟨_,z⟩
      | frz ob v=>obtain ⟨z,_⟩:=x; exact ⟨_,z⟩
      | tbl ps=>exact ⟨_,(show s0.get? b=some _ from x)⟩
      | met f y=>exact ⟨_,(show s0.get? b=some _ from x)⟩
      | ext φ=>obtain ⟨_,⟨_,z⟩,_⟩:=x; exact ⟨_,z⟩
    exact ⟨o,PySem.W.hideAll_get _ ho λhm=>by rw[hn b hm] at q; cases q⟩
  have nb:(PySem.W.hideAll s0 (frs (env::outer))).get? e=none:=by
    cases q:(PySem.W.hideAll s0 (frs (env::outer))).get? e with
    | none=>rfl
    | some o=>have:=st0 e o q; rw[hm.new] at this; cases this
  have fl1:s0.FunFrames (PySem.W.hideAll s0 (frs (env::outer))) (env::outer):=PySem.W.funFrames_hide fl0 λx hx a ha=>List.mem_filterMap.mpr ⟨x,hx,ha⟩
  refine Zi7 hfr (ZdI (.of_keeps hm.keeps) fl1) hf he st nb rfl rfl rfl λh' st' fr tr up=>?_
  exact k h' t ⟨Zj7 hok st0 st' tk,st',nb,fr,tr,tk⟩ ((Heap.UpToSlots.of_keeps hm.keeps).trans up)
end
end L2
namespace L2
open PySem PySem.Spec PyProof.Rows
theorem Zj8{env:Env}{outer:List Env}{L b:Addr}(hf:env.frame=some L):b∈frs (env::outer)↔b=L\/b∈frs outer:=by
  unfold frs
  rw[Uh,hf,Q9]
section
variable{X:Cx}{pins:List (Addr×Obj)}{σ:St}{H1 H2:Hp}{s1:Shared}{B h2 h3:Heap}
theorem ZhD(U:Un (frs X.stack) [] H1 H2 s1.heap h2)(fr:h2.FunFrames B X.stack)(up:h2.UpToSlots h3)(st:B.StaysIn h3)(in1:∀b o,s1.heap.get? b=some o->H1 b=none->b∉frs X.stack->B.get? b=some o)
    (in2:∀b o,s1.heap.get? b=some o->b∉frs X.stack->∃o',B.get? b=some o'):Un (frs X.stack) [] H1 H2 s1.heap h3 where
  keep:=λb o q n hb _=>st b o (in1 b o q n hb)
  slot:=λb o q n hb hx=>by
    obtain ⟨sl,e⟩:=U.slot b o q n hb hx
    obtain ⟨_,o',e',nf⟩:=fr.mem hb
    rw[e] at e'
    cases e'
    obtain ⟨sl',e2⟩:=up b _ e nf
    exact ⟨sl',e2⟩
  free:=U.free
  there:=λb o q hx=>by
    by_cases hb:b∈frs X.stack
    · obtain ⟨_,o',e',nf⟩:=fr.mem hb
      obtain ⟨sl,e2⟩:=up b _ e' nf
      exact ⟨_,e2⟩
    · obtain ⟨o',z⟩:=in2 b o q hb
      exact ⟨o',st b o' z⟩
  tups:=U.tups
  frzs:=U.frzs
  tbls:=U.tbls
theorem Zj9(I:Inv X pins σ H1 s1)(hx:X.ex=[])(hs:X.stack=X.env::X.outer)(hf:X.env.frame=some X.env.locals)(U:Un (frs X.stack) [] H1 H2 s1.heap h2)(fr:h2.FunFrames B X.stack)(up:h2.UpToSlots h3)(st:B.StaysIn h3)
    (in1:∀b o,s1.heap.get? b=some o->H1 b=none->b∉frs X.stack->B.get? b=some o) (in2:∀b o,s1.heap.get? b=some o->b∉frs X.stack->∃o',B.get? b=some o') :
    Un X.fs [] X.H₀ H2 X.s₀.heap h3/\(∀b o,X.s₀.heap.get? b=some o->X.H₀ b=none->b∉X.fs->B.get? b=some o)/\∀b o,X.s₀.heap.get? b=some o->b∉X.fs->∃o',B.get? b=some o':=by
  have V:=ZhD U fr up st in1 in2
  have ib:Un X.fs [] X.H₀ H1 X.s₀.heap s1.heap:=by have:=I.base; rw[hx] at this; exact this
  have ne:∀b o,X.s₀.heap.get? b=some o->b≠X.env.locals:=λb o q z=>by
    subst z
    exact absurd (Q7 (Heap.lt_size q) I.ok.above) (W0 _)
  have nm:∀b o,X.s₀.heap.get? b=some o->b∉X.fs->b∉frs X.stack:=λb o q hb z=>by
    rw[hs] at z
    rcases (Zj8 hf).mp z with e | e
    · exact ne b o q e
    · exact hb e
  have sub:∀b,b∈X.fs->b∈frs X.stack:=λb hb=>by rw[hs]; exact (Zj8 hf).mpr (.inr hb)
  refine ⟨⟨λb o q n hb hx=>?_,λb o q n hb hx=>?_,λb o q n hx=>?_,λb o q hx=>?_,λb xs q=>V.tups b xs (ib.tups b xs q),λb o u q=>V.frzs b o u (ib.frzs b o u q),λb ps q=>?_⟩,λb o q n hb=>?_,λb o q hb=>?_⟩
  · exact V.keep b o (ib.keep b o q n hb hx) (ib.free b o q n hx) (nm b o q hb) hx
  · obtain ⟨sl,e⟩:=ib.slot b o q n hb hx
    obtain ⟨sl',e'⟩:=V.slot b _ e (ib.free b o q n hx) (sub b hb) hx
    exact ⟨sl',e'⟩
  · obtain ⟨o',e⟩:=ib.there b o q hx
    exact V.free b o' e (ib.free b o q n hx) hx
  · obtain ⟨o',e⟩:=ib.there b o q hx
    exact V.there b o' e hx
  · obtain ⟨m1,e1⟩:=ib.tbls b ps q
    obtain ⟨m2,e2⟩:=V.tbls b _ e1
    exact ⟨m1++m2,by rw[e2,Array.append_assoc]⟩
  · exact in1 b o (ib.keep b o q n hb (by simp)) (ib.free b o q n (by simp)) (nm b o q hb)
  · obtain ⟨o',e⟩:=ib.there b o q (by simp)
    exact in2 b o' e (nm b o q hb)
end
section
variable{P:Program}{w:World}{K:PySem.W.Frag}{mg:Str->Option Value}{base:Heap}{N:List Str}{qual:Str}{scope:Scope}{f:Addr}{cd:Value}{A:Around}{outer:List Env}{s:Shared}{H:Hp}{E:XK}
abbrev cxX(P:Program)(w:World)(K:PySem.W.Frag)(mg:Str->Option Value)(base:Heap)(N:List Str)(qual:Str)(scope:Scope)(f:Addr)(cd:Value)(A:Around)(outer:List Env)(s:Shared)(H:Hp)(E:XK):Cx :=
  ZmT (CXx P w) P w K mg base N qual scope f cd A outer s H E
def Zha(X:Cx)(E:St->XK):Prop:=∀(pins:List (Addr×Obj)) (σ:St) (H:Hp) (s:Shared) (e:Value) (s':Shared),Inv X pins σ H s->CXx X.prog X.w X.stack H s (E σ) e s'->X.xe e s'
theorem ZhE:Zha (cxX P w K mg base N qual scope f cd A outer s H E) λ_=>E:=by
  intro pins σ H1 s1 ev s2 I h
  obtain ⟨e,t,cls,dd,H2,B,rfl,os,bare,U,a,in1,in2,q⟩:=h
  show wpAny (model P w) (A.deeper (envOfC qual scope s.heap.objs.size f cd)) (leaving (envOfC qual scope s.heap.objs.size f cd) (.ref e)) _ _ s2
  have hfr:=I.ok.frames
  refine Air.leave (L:=s.heap.objs.size) a hfr rfl λh3 a3 up=>?_
  obtain ⟨u,i1,i2⟩:=Zj9 I rfl rfl rfl U a.fr up a3.st in1 in2
  exact ⟨e,t,cls,dd,H2,B,rfl,os.trans I.os,bare,u,a3,i1,i2,q⟩
theorem Zdl{X:Cx}:Zha X λ_=>E0:=λ_ _ _ _ _ _ _ ⟨_,_,_,_,_,_,_,_,_,_,_,_,_,q⟩=>q.elim
def Zka(X:Cx)(E:XK):Prop:=∀(pins:List (Addr×Obj)) (σ:St) (H:Hp) (s:Shared) (h':Heap) (e:Addr) (cls:Value) (vs:List Value),Inv X pins σ H s->Heap.MadeExcOf s.heap h' e cls vs->E cls none H->X.xe (.ref e) { s with heap:=h' }
theorem ZeX:Zka (cxX P w K mg base N qual scope f cd A outer s H E) E:=by
  intro pins σ H1 s1 h' e cls vs I hm q
  show wpAny (model P w) (A.deeper (envOfC qual scope s.heap.objs.size f cd)) (leaving (envOfC qual scope s.heap.objs.size f cd) (.ref e)) _ _ _
  have hfr:=I.ok.frames
  unfold leaving
  refine wpAny_bind (Zm7 (s:={ s1 with heap:=h' }) I.hok I.stack hm I.stkFree hfr rfl λh2 t a2 u2=>?_)
  refine Air.off (s:={ s1 with heap:=h2 }) a2 λh3 a3 u3=>?_
  obtain ⟨_,_,fr⟩:=a3.fr
  have fr0:s1.heap.FunFrames (PySem.W.hideAll s1.heap (frs (cxX P w K mg base N qual scope f cd A outer s H E).stack)) (cxX P w K mg base N qual scope f cd A outer s H E).stack:=PySem.W.funFrames_hide I.stack λx hx a ha=>List.mem_filterMap.mpr ⟨x,hx,ha⟩
  obtain ⟨u,i1,i2⟩:=Zj9 I rfl rfl rfl .refl fr0 (u2.trans u3) a3.st (λb o e _ hb=>PySem.W.hideAll_get _ e hb) (λb o e hb=>⟨o,PySem.W.hideAll_get _ e hb⟩)
  exact ⟨e,t,cls,none,H1,_,rfl,I.os,I.bare,u,⟨a3.hok,a3.st,a3.nb,fr,a3.tr,a3.tk⟩,i1,i2,q⟩
theorem Fun.okx{x qual:Str}{st:Stmt}{f:Addr}{fd:FuncData}{N ps:List Str}{k:Nat}{sp:Sp}(F:Fun K x qual st f fd)(S:FnScope N ps (Zah st))(len:∀vs H Q E,sp vs H Q E->vs.length=ps.length)
    (hbody:∀(cdv:Value) (A:Around) (outer:List Env) (s:Shared) (H:Hp) (vs:List V) (Q:VK) (E:XK),Room k (A.deeper (envOfC qual (Zah st) s.heap.objs.size f cdv))->sp vs H Q E →
      ∃t,PSs (cxX P w K mg base N qual (Zah st) f cdv A outer s H E) (Zbt st) t/\t { nx:=λ_ H'=>Q .non H',rt:=Q } (start N vs) H):FnOk P w K mg base (CXx P w) (k+1) f fd ps sp:=by
  obtain ⟨oc,od,kV,doc,pm,an,cdv,ct,osl,rfl,lk,hcd⟩:=F.ex
  exact ZmU lk hcd S len λA outer s H vs Q E hr hsp=>hbody cdv A outer s H vs Q E hr hsp
end
structure HasX (P:Program) (w:World) (K:PySem.W.Frag) (mg:Str->Option Value) (base:Heap) (x:Str) (k:Nat) (ps:List Str) (sp:Sp):Prop where
  ex:∃(f:Addr) (fd:FuncData),FnOk P w K mg base (CXx P w) k f fd ps sp/\mg x=some (.ref f)/\PySem.W.keepIn K (.ref f)=true/\Binds K fd ps []
structure HasMX (P:Program) (w:World) (K:PySem.W.Frag) (mg:Str->Option Value) (base:Heap) (C:Addr) (m:Str) (k:Nat) (ps:List Str) (dvs:List V) (sp:Sp):Prop where
  ex:∃(f:Addr) (fd:FuncData) (ds:List Value),FnOk P w K mg base (CXx P w) k f fd ps sp/\Meth K C m f/\Binds K fd ps ds/\Vals dvs ds
structure HasIX (P:Program) (w:World) (K:PySem.W.Frag) (mg:Str->Option Value) (base:Heap) (C:Addr) (k:Nat) (ps:List Str) (sp:Sp):Prop where
  ex:∃(f:Addr) (fd:FuncData),Mk K C f/\FnOk P w K mg base (CXx P w) k f fd ps sp/\Binds K fd ps []
section
variable{P:Program}{w:World}{K:PySem.W.Frag}{mg:Str->Option Value}{base:Heap}{x m qual:Str}{C:Addr}{st:Stmt}{j k:Nat}{ps:List Str}{dvs:List V}{sp:Sp}
theorem HasX.mono(h:HasX P w K mg base x j ps sp)(e:j<=k):HasX P w K mg base x k ps sp:=let ⟨f,fd,a,b,c,d⟩:=h.ex; ⟨f,fd,a.mono e,b,c,d⟩
theorem HasMX.mono(h:HasMX P w K mg base C m j ps dvs sp)(e:j<=k):HasMX P w K mg base C m k ps dvs sp:=let ⟨f,fd,ds,a,b,c,d⟩:=h.ex; ⟨f,fd,ds,a.mono e,b,c,d⟩
theorem Here.hasX(h:Here K mg x st)(b:∀f fd,Fun K x x st f fd->Binds K fd ps [])(ok:∀f fd,Fun K x x st f fd->FnOk P w K mg base (CXx P w) k f fd ps sp):HasX P w K mg base x k ps sp :=
  let ⟨f,fd,F,m⟩:=h.ex
  ⟨f,fd,ok f fd F,m,F.kp,b f fd F⟩
theorem HereM.hasMX(h:HereM K C m qual st)(b:∀f fd,Fun K m qual st f fd->Binds K fd ps [])(ok:∀f fd,Fun K m qual st f fd->FnOk P w K mg base (CXx P w) k f fd ps sp):HasMX P w K mg base C m k ps [] sp :=
  let ⟨f,fd,F,M⟩:=h.ex
  ⟨f,fd,[],ok f fd F,M,b f fd F,.nil⟩
end
section
variable{X:Cx}{k:Nat}{f C:Addr}{fd:FuncData}{ps:List Str}{sp:Sp}{dvs:List V}{ds:List Value}{E:St->XK}{x m:Str}{p pos apos:Pos}{e o:Expr}{es:List Expr}{ta:TE}{t:TA}
theorem Zkb{pins:List (Addr×Obj)}{σ:St}{H:Hp}{s:Shared}{Q:VK}{us:List Value}{vs:List V}(F:FnOk X.prog X.w X.K X.mg X.base (CXx X.prog X.w) k f fd ps sp)(hr:Room k X.A)(hb:Binds X.K fd ps ds)(hd:Vals dvs ds)(hx:Zha X E)
    (I:Inv X pins σ H s) (r:Vals vs us) (h:sp (vs++dvs) H Q (E σ)):wpAny (model X.prog X.w) X.A (call (.ref f) us) (EP X pins σ Q) X.xe s:=by
  have r2:Vals (vs++dvs) (us++ds):=r.append hd
  have hl:(us++ds).length=ps.length:=by rw[<-r2.length]; exact F.len _ _ _ _ h
  refine wpAny_call (codeAny_mono (F.run X.A X.stack s H ⟨us,[]⟩ (us++ds) (vs++dvs) Q (E σ) hr I.env0 (hb s us I.kIn hl) r2 h) λr s' hq=>?_)
  cases r with
  | error e=>exact hx pins σ H s e s' I hq
  | ok fl =>
    cases fl with
    | ret u=>exact I.after hq
    | next=>exact False.elim hq
    | brk=>exact False.elim hq
    | cont=>exact False.elim hq
theorem ZcN(h:HasX X.prog X.w X.K X.mg X.base x k ps sp)(hx:Zha X E)(hr:Room k X.A)(hg:Gl X x)(ha:PA X (e::es) t)(hdb:(x==("__debug__" : Str))=false:=by decide)
    (he:starEach (e::es) X.env=(false,eval e X.env)::starEach es X.env:=by rfl) (hpl:(backTo pos (starEach es X.env)).any (·.1)=false:=by rfl) :
    PE X (.Call (.Name x p) (e::es) [] pos) (λσ H Q=>t σ H λvs H1=>sp vs H1 Q (E σ)):=by
  obtain ⟨f,fd,F,hm,hk,hb⟩:=h.ex
  intro pins s σ H Q I h
  refine wpAny_Call_Name_kw (Zdi I hg hm ?_ hdb)
  refine PySem.W.callWith_K (h₀:=X.base) I.ok.mod.kin hk (thn (ha pos pins s σ H _ I h) λus s1 ⟨vs,H1,I1,r,q⟩=>⟨I1.kIn,?_⟩) he hpl
  exact Zkb (dvs:=[]) F hr hb .nil hx I1 r (by rw[Us]; exact q)
def Zmk(P:Program)(w:World)(K:PySem.W.Frag)(mg:Str->Option Value)(base:Heap)(m:Str)(k:Nat)(E:St->XK)(ta:TE)(t:TA):TE:=λσ H Q=>ta σ H λx H1=>∃a C dx fs ps dvs sp,x = .ref a/\H1 a=some (.ins C dx fs)/\Cls K C/\HasMX P w K mg base C m k ps dvs sp/\fs.lookup m=none ∧
  t σ H1 λvs H2=>sp (x::(vs++dvs)) H2 Q (E σ)
theorem ZaS{pl:Sem Bool}(he:PE X o ta)(hx:Zha X E)(hr:Room k X.A)(ha:PA X (e::es) t)
    (hst:starEach (e::es) X.env=(false,eval e X.env)::starEach es X.env:=by rfl) (hpl:(backTo pos (starEach es X.env)).any (·.1)=false:=by rfl)
    (ht:eval (.Call (.Attribute o m apos) (e::es) [] pos) X.env=(do
      let ov ← eval o X.env
      standAt apos.atName
      let (f,first) ← holding [ov] (getMethod ov m pl)
      callWith pos f first (backTo pos (starEach (e::es) X.env)) (backToKw pos (keywordEach [] X.env))):=by rfl) :
    PE X (.Call (.Attribute o m apos) (e::es) [] pos) (Zmk X.prog X.w X.K X.mg X.base m k E ta t):=by
  intro pins s σ H Q I h
  refine PySem.W.methodCall_KW (pl:=pl) (thn (he pins s σ H _ I h) λu s1 ⟨x,H1,I1,rx,a,C,dx,fs,ps,dvs,sp,ex,ea,c,hM,l,q⟩=>?_) ht
  subst ex
  obtain rfl:u=Value.ref a:=rx
  obtain ⟨f,fd,ds,F,hm,hb,hd⟩:=hM.ex
  refine ZfP I1 ea c hm l ?_
  refine PySem.W.callWith_K (first:=[.ref a]) (h₀:=X.base) I.ok.mod.kin hm.kp (thn (ha pos pins s1 σ H1 _ I1 q) λus s2 ⟨vs,H2,I2,r,q2⟩=>⟨I2.kIn,?_⟩) hst hpl
  exact Zkb (us:=.ref a::us) (vs:=.ref a::vs) F hr hb hd hx I2 (.cons rfl r) q2
end
end L2
namespace L2
open PySem PySem.Spec PyProof.Rows
abbrev bmV:List Value:=[.type "ValueError", .type "Exception", .type "BaseException", .type "object"]
structure ExcC (K:PySem.W.Frag) (mg:Str->Option Value) (x:Str) (C:Addr):Prop where
  cls:XCls K C
  mgx:mg x=some (.ref C)
  ein:PySem.W.excIn K C bmV "ValueError.__new__" = true
theorem ExcC.obj{K:PySem.W.Frag}{mg:Str->Option Value}{x:Str}{C:Addr}(c:ExcC K mg x C){h:Heap}(X:K.In h):OwnCls x C bmV "ValueError.__new__" mg h:=by
  refine ⟨c.mgx,?_⟩
  have q:=c.ein
  unfold PySem.W.excIn at q
  split at q
  · rename_i dd cd sl ho
    split at q
    · rename_i C' bm k0 k1 k2 k3 n k5 hm hs
      simp only[Bool.and_eq_true,beq_iff_eq,Bool.not_eq_true'] at q
      obtain ⟨⟨⟨⟨⟨rfl,rfl⟩,hdel⟩,ht⟩,hok⟩,hni⟩:=q
      obtain ⟨nm,bs,mro,ns,qn,hd,sn,sub,ab,col,del⟩:=cd
      dsimp only at hm hdel hok hni
      subst hm hdel
      obtain ⟨l⟩:=sl
      have hl:l=[k0,k1,k2,k3,some (.builtin "ValueError.__new__"),k5]:=hs
      subst hl
      exact ⟨bm,ns,nm,qn,bs,hd,sn,sub,ab,col,dd,k0,k1,k2,k3,k5,_,X _ _ ho,.of_isNs (PySem.W.isNs_of_in X hok),PySem.W.nsMap_none_of_in X hok hni,PySem.W.tail_of_in X ht⟩
    · cases q
  · cases q
section
variable{X:Cx}{k:Nat}{C:Addr}{ps:List Str}{sp:Sp}{x m:Str}{p pos np cpos:Pos}{e:Expr}{es:List Expr}{t:TA}
theorem Zcq{E:XK}(c:ExcC X.K X.mg x C)(hR:Zka X E)(hcalm:X.calm=true)(hg:Gl X x)(ha:PA X (e::es) t)(hl:(e::es).length<=1000:=by decide)
    (he:starEach (e::es) X.env=(false,eval e X.env)::starEach es X.env:=by rfl) (hpl:(backTo cpos (starEach es X.env)).any (·.1)=false:=by rfl) (hdb:(x==("__debug__" : Str))=false:=by decide) :
    PS X (.Raise (some (.Call (.Name x np) (e::es) [] cpos)) none pos) (λ_ σ H=>t σ H λvs H1=>vs.length<=1000/\E (.ref C) none H1):=by
  intro pins s σ H D I h
  obtain ⟨bm,N,nm,q,bs,hdct,sn,sub,ab,col,dd,k0,k1,k2,k3,k5,mN,hC,hN,hni,T⟩:=(c.obj I.mod.kin).obj
  refine wpAny_Raise_call_subT (C:=C) (nm:=nm) (q:=q) (N:=N) (bs:=bs) (bm:=bm) (hdct:=hdct) (sn:=sn) (sub:=sub) (ab:=ab) (col:=col) (dd:=dd) (k0:=k0) (k1:=k1) (k2:=k2) (k3:=k3) (k5:=k5) PySem.F.excBase_ValueError
    (mN:=mN) (T.hasType PySem.F.excBase_ValueError.hasBase) (I.ok.hd hcalm) (by rw[he]; show (false||(backTo cpos (starEach es X.env)).any (·.1))=false; rw[hpl]; rfl) hni (Zdi I hg c.mgx ⟨rfl,?_⟩ hdb)
  have z:=ha cpos pins s σ H _ I h
  rw[he] at z ⊢
  refine Calls.evalArgs_plain (wpAny_mono z (λus s2 ⟨vs,H2,I2,r,hv,q2⟩=>⟨rfl,?_,I2.bk _ _ hC,hN.keeps I2.bk,T.keeps I2.bk,λh' e' hm=>hR pins σ H2 s2 h' e' _ _ I2 hm q2⟩) λ_ _ y=>y)
  rw[<-r.length]
  exact Ug (ZdF hv)
end
end L2
namespace L2
open PySem PySem.Spec PyProof.Rows
def Zm8(e C:Addr)(dd:Option Addr):HO:=.ext λh=>∃oe vs,h.get? e=some oe/\oe.cls = .ref C/\oe.dict=dd/\oe.data = .fields vs
section
variable{X:Cx}{pins:List (Addr×Obj)}{σ σ1:St}{H H1:Hp}{s s1:Shared}{e C:Addr}{dd:Option Addr}
theorem Inv.track(I:Inv X pins σ H s)(I1:Inv X pins σ1 H1 s1)(ne:s1.heap.get? e=none)(hn:H e=none){oe:Obj}{vs:Array Value}(he:s.heap.get? e=some oe)(hc:oe.cls = .ref C)(hd:oe.dict=dd)(hv:oe.data = .fields vs):Inv X pins σ (upd H e (Zm8 e C dd)) s:=by
  have nx:∀b u,H b=some u->b≠e:=λb u q z=>by subst z; rw[hn] at q; cases q
  have nh:∀b o,s1.heap.get? b=some o->b≠e:=λb o q z=>by subst z; rw[ne] at q; cases q
  have ib:=I.base
  refine ⟨I.ok,I.os,I.bare,⟨ib.keep,ib.slot,λb o q n hx=>?_,ib.there,λb xs q=>?_,λb o u q=>?_,λb ps q=>?_⟩,I.loc,I.cell,?_,λx c q=>?_,λp hp=>?_,λb u q=>?_,I.len⟩
  · obtain ⟨o',z⟩:=I1.base.there b o q hx
    rw[Zav (nh b o' z)]
    exact ib.free b o q n hx
  · have z:=ib.tups b xs q
    rw[Zav (nx b _ z)]; exact z
  · have z:=ib.frzs b o u q
    rw[Zav (nx b _ z)]; exact z
  · obtain ⟨m,z⟩:=ib.tbls b ps q
    exact ⟨m,by rw[Zav (nx b _ z)]; exact z⟩
  · obtain ⟨m,⟨o,es,ep,z,_⟩,_⟩:=I1.loc
    rw[Zav (nh _ o z)]; exact I.free
  · obtain ⟨v,o,z,_⟩:=I1.cell x c q
    rw[Zav (nh _ o z)]; exact I.freeC x c q
  · obtain ⟨a,b,c,d,f⟩:=I.pin p hp
    exact ⟨a,by rw[Zav (nh _ _ (I1.pin p hp).1)]; exact b,c,d,f⟩
  · by_cases hb:b=e
    · subst hb
      rw[Zaf] at q
      cases q
      refine ⟨⟨oe,vs,he,hc,hd,hv⟩,⟨oe,he⟩,λh1 h2=>?_⟩
      rintro ⟨o1,v1,a,b,c,d⟩ k
      exact ⟨o1,v1,k _ a,b,c,d⟩
    · rw[Zav hb] at q
      exact (I.hok b u q).stay (λc v _ z=>z) (λc z=>by rw[Zav (nx c _ z)]; exact z) λc xs z=>by rw[Zav (nx c _ z)]; exact z
def Cx.suite(X:Cx)(e:Addr):Cx:={ X with A:=X.A.mark (some (.ref e)),calm:=false,xe:=λ_ _=>False }
theorem Inv.suite(I:Inv X pins σ H s)(e:Addr):Inv (X.suite e) pins σ H s :=
  ⟨⟨I.ok.mod,I.ok.kind,I.ok.glob,I.ok.blt,I.ok.above,I.ok.inj,I.ok.has,I.ok.cab,(λz=>nomatch z),I.ok.frames,I.ok.stk,I.ok.exf,I.ok.bs,I.ok.bsz,I.ok.noex,I.ok.exfs,I.ok.funs,I.ok.frf⟩,I.os,I.bare,I.base,I.loc,I.cell,I.free,I.freeC,I.pin,I.hok,I.len⟩
theorem Inv.unsuite(ok:X.Ok)(I:Inv (X.suite e) pins σ H s):Inv X pins σ H s:=⟨ok,I.os,I.bare,I.base,I.loc,I.cell,I.free,I.freeC,I.pin,I.hok,I.len⟩
abbrev Cx.tryB(X:Cx)(pn:List (Addr×Obj))(xe:Value->Shared->Prop):Cx:={ X with pn:=pn,xe:=xe }
theorem Inv.tryB(I:Inv X pins σ H s)(xe:Value->Shared->Prop):Inv (X.tryB (X.pn++pins) xe) [] σ H s :=
  ⟨⟨I.ok.mod,I.ok.kind,I.ok.glob,I.ok.blt,I.ok.above,I.ok.inj,I.ok.has,I.ok.cab,I.ok.hd,I.ok.frames,I.ok.stk,I.ok.exf,I.ok.bs,I.ok.bsz,I.ok.noex,I.ok.exfs,I.ok.funs,I.ok.frf⟩,I.os,I.bare,I.base,I.loc,I.cell,I.free,I.freeC,λp hp=>I.pin p (by rw[Us] at hp; exact hp),I.hok,I.len⟩
theorem Inv.untryB{xe:Value->Shared->Prop}{pins':List (Addr×Obj)}(ok:X.Ok)(I:Inv (X.tryB (X.pn++pins) xe) pins' σ H s):Inv X pins σ H s :=
  ⟨ok,I.os,I.bare,I.base,I.loc,I.cell,I.free,I.freeC,λp hp=>I.pin p (Ui _ hp),I.hok,I.len⟩
theorem Inv.drop{i:Nat}{n:Str}{h':Heap}{v:Option Value}{m:Str->Option Value}{t':Nat}(I:Inv X pins σ H s)(hN:X.N.Nodup)(hi:X.N[i]?=some n)(hm:s.heap.Ns X.env.locals m)
    (hl:∀(j:Nat) (x:Str) (u:V),X.N[j]?=some x->σ[j]?=some (some u)->Vis X.env.scope x->∃z,RelV u z/\ZpI X.env s.heap m x z)
    (hn:h'.Ns X.env.locals (λx=>if x=n then v else m x)) (sb:Heap.SameBut X.env.locals s.heap h'):Inv X pins (σ.set i none) H { s with heap:=h',toks:=t' }:=by
  have keep:∀b o,b≠X.env.locals->s.heap.get? b=some o->h'.get? b=some o:=λb o hb q=>sb.extBut b o hb q
  have ne0:∀b o,X.s₀.heap.get? b=some o->b≠X.env.locals:=λb o q z=>by
    subst z
    exact absurd (Q7 (Heap.lt_size q) I.ok.above) (W0 _)
  have nt:∀b u,H b=some u->b≠X.env.locals:=λb u q z=>by subst z; rw[I.free] at q; cases q
  have ib:=I.base
  have hσ:i<σ.length:=by rw[I.len]; exact (Qk.mp hi).1
  refine ⟨I.ok,I.os,I.bare,⟨λb o q a c d=>keep b o (ne0 b o q) (ib.keep b o q a c d),λb o q a c d=>?_,ib.free,λb o q d=>?_,ib.tups,ib.frzs,ib.tbls⟩,⟨_,hn,λj x u a b c=>?_⟩,λx c q=>?_,I.free,I.freeC,λp hp=>?_,λb u q=>?_,?_⟩
  · obtain ⟨sl,z⟩:=ib.slot b o q a c d
    exact ⟨sl,keep b _ (ne0 b o q) z⟩
  · obtain ⟨o',z⟩:=ib.there b o q d
    exact ⟨o',keep b o' (ne0 b o q) z⟩
  · have hji:j≠i:=λz=>by
      subst z
      rw[List.getElem?_set_self hσ] at b
      cases b
    rw[List.getElem?_set_ne (Ne.symm hji)] at b
    obtain ⟨z,r,lk⟩:=hl j x u a b c
    have hxn:x≠n:=λz=>by
      subst z
      exact hji ((List.getElem?_inj (Qk.mp a).1 hN).mp (a.trans hi.symm))
    refine ⟨z,r,?_⟩
    rcases lk with ⟨k1,k2⟩ | ⟨k1,cc,k2,oc,k3,k4⟩
    · exact .inl ⟨k1,by show (if x=n then v else m x)=some z; rw[if_neg hxn]; exact k2⟩
    · exact .inr ⟨k1,cc,k2,oc,keep _ _ (I.cne x cc k2) k3,k4⟩
  · obtain ⟨v0,oc,k3,k4⟩:=I.cell x c q
    exact ⟨v0,oc,keep _ _ (I.cne x c q) k3,k4⟩
  · obtain ⟨a,b,c,d,f⟩:=I.pin p hp
    exact ⟨keep _ _ c a,b,c,d,f⟩
  · exact (I.hok b u q).stay (λc w hc z=>keep c w (by rcases hc with rfl | hc; exact nt _ _ q; exact nt _ _ hc) z) (λ_ z=>z) λ_ _ z=>z
  · rw[Qw]; exact I.len
theorem ZhF{prog:Program}{w:World}{A:Around}{E:Value->Shared->Prop}{K:PySem.W.Frag}{CE:Addr}{Q:Bool->Shared->Prop}{oe:Obj}(KX:K.In s.heap)(ht:PySem.W.typeIn K (.ref CE)=some (.type "type")) (hb:PySem.W.mroIn K CE (.type "BaseException")=some true)
    (hcl:(PySem.W.clsIn K CE).isSome=true) (hm:PySem.W.mroIn K C (.ref CE)=some true) (he:s.heap.get? e=some oe) (hc:oe.cls = .ref C) (h:Q true s):wpAny (model prog w) A (excMatches (.ref e) (.ref CE)) Q E s:=by
  obtain ⟨hh,g,d,tk,os⟩:=s
  have L1:=PySem.W.looks_typeIn (M:=model prog w) KX ht
  have L2:=PySem.W.looks_mroIn (M:=model prog w) KX hb
  have L3:=PySem.W.looks_mroIn (M:=model prog w) KX hm
  have L0:PySem.W.Looks (model prog w) hh (typeOf (.ref e)) (.ref C):=hc ▸ (PySem.W.Looks.ld he).andThen .now
  have f:=tc_notTuple
  have L4:PySem.W.Looks (model prog w) hh (isInstance (.ref CE) (.type "tuple")) false:=L1.andThen (PySem.W.Looks.of_pure f)
  have L5:PySem.W.Looks (model prog w) hh (isType (.ref CE)) true:=by
    obtain ⟨cd,z⟩:=Option.isSome_iff_exists.mp hcl
    unfold PySem.W.clsIn at z
    split at z
    · rename_i c' d' cd' sl' ho
      intro A' Q' E' s' k q
      unfold isType loadHead
      exact wpAny_bind (wpAny_loadPart (k _ _ (KX _ _ ho)) (wpAny_pure q))
    · cases z
  unfold excMatches
  refine wpAny_bind (m:=isInstance (.ref CE) (.type "tuple")) (L4.at ?_)
  refine wpAny_bind (m:=(pure [Value.ref CE]:Sem (List Value))) (wpAny_pure ?_)
  refine wpAny_bind ?_
  rw[List.forIn_cons]
  refine wpAny_bind (wpAny_bind (m:=isExcClass (.ref CE)) ?_)
  unfold isExcClass
  refine wpAny_bind (L5.at (L2.at ?_))
  refine wpAny_pure (wpAny_pure (a:=PUnit.unit) ?_)
  refine wpAny_bind (L0.at (wpAny_bind ?_))
  rw[List.forIn_cons]
  refine wpAny_bind (wpAny_bind (L3.at ?_))
  refine wpAny_pure (wpAny_pure (wpAny_pure h))
def Zml(K:PySem.W.Frag)(CE:Addr)(i:Nat)(ts:Addr->TS)(D:Ends):St->XK:=λσ1 cls dd H1=>∃C,cls = .ref C/\PySem.W.mroIn K C (.ref CE)=some true ∧
  ∀e,H1 e=none->ts e { nx:=λσ2 H2=>D.nx (σ2.set i none) H2,rt:=λ_ _=>False } (σ1.set i (some (.ref e))) (upd H1 e (Zm8 e C dd))
def Zqf(K:PySem.W.Frag)(CE:Addr)(i:Nat)(tb:(St->XK)->List (Addr×Obj)->(Value->Shared->Prop)->TS)(ts:Addr->TS):TS:=λD σ H=>∀pn xe,tb (Zml K CE i ts D) pn xe D σ H
structure CatC (K:PySem.W.Frag) (mg:Str->Option Value) (x:Str) (CE:Addr):Prop where
  mgx:mg x=some (.ref CE)
  ty:PySem.W.typeIn K (.ref CE)=some (.type "type")
  be:PySem.W.mroIn K CE (.type "BaseException")=some true
  cl:(PySem.W.clsIn K CE).isSome=true
theorem Zok{body:List Stmt}{b₀:Stmt}{suite:List Stmt}{cx n:Str}{np hpos pos:Pos}{i:Nat}{CE:Addr}{tb:(St->XK)->List (Addr×Obj)->(Value->Shared->Prop)->TS}{ts:Addr->TS}(cE:CatC X.K X.mg cx CE)(hN:X.N.Nodup)(hi:X.N[i]?=some n)(hl:X.env.scope.names.lookup n=some .local)(hg:Gl X cx)
    (hb:∀(E:St->XK) (pn:List (Addr×Obj)) (xe:Value->Shared->Prop),Zha (X.tryB pn xe) E->PSs (X.tryB pn xe) body (tb E pn xe)) (hs:∀e,PSs (X.suite e) (b₀::suite) (ts e))
    (hstk:X.stack=X.env::X.outer:=by rfl) (hf:X.env.frame=some X.env.locals:=by rfl) (hdb:(cx==("__debug__" : Str))=false:=by decide) :
    PS X (.Try body [.ExceptHandler (some (.Name cx np)) (some n) (b₀::suite) hpos] [] [] pos) (Zqf X.K CE i tb ts):=by
  intro pins s σ H D I h
  let EE:=Zml X.K CE i ts D
  let XE:Value->Shared->Prop:=λev s'=>∃σ1 H1 s1,Inv X pins σ1 H1 s1/\CXx X.prog X.w X.stack H1 s1 (EE σ1) ev s'
  have pass:Zha (X.tryB (X.pn++pins) XE) EE:=λpins' σ1 H1 s1 ev s' I' h'=>⟨σ1,H1,s1,I'.untryB I.ok,h'⟩
  have back:∀f s',SP (X.tryB (X.pn++pins) XE) [] D f s'->SP X pins D f s':=λf s' q=>by
    cases f with
    | next=>obtain ⟨σ',H',J,q⟩:=q; exact ⟨σ',H',J.untryB I.ok,q⟩
    | brk=>obtain ⟨σ',H',J,q⟩:=q; exact ⟨σ',H',J.untryB I.ok,q⟩
    | cont=>obtain ⟨σ',H',J,q⟩:=q; exact ⟨σ',H',J.untryB I.ok,q⟩
    | ret u=>obtain ⟨v,σ',H',J,r,q⟩:=q; exact ⟨v,σ',H',J.untryB I.ok,r,q⟩
  refine wpAny_Try_except (wpAny_mono (hb EE _ XE pass [] s σ H D (I.tryB XE) (h _ _)) (λf s1 q=>?_) λev s2 hx=>?_)
  · have q':=back f s1 q
    cases f with
    | next=>exact wpAny_execs_nil q'
    | brk=>exact q'
    | cont=>exact q'
    | ret u=>exact q'
  obtain ⟨σ1,H1,s1,I1,e,t,cls,dd,H2,B,rfl,os,bare,U,a,in1,in2,C,rfl,hm,k⟩:=hx
  have hfr:=I.ok.frames
  rw[hstk] at hfr
  have a':Air X.prog X.w B (X.env::X.outer) H2 s2.heap e t (.ref C) dd .none:=by rw[<-hstk]; exact a
  refine a'.note hfr hf λh4 a4 u4=>?_
  refine Air.off (s:={ s2 with heap:=h4 }) a4 λh5 a5 u5=>?_
  have U5:=ZhD U a.fr (u4.trans u5) a5.st in1 in2
  have I5:Inv X pins σ1 H2 { s2 with heap:=h5 }:=I1.call' (ch:=[]) os U5 a5.hok bare λb z=>absurd z (by simp)
  refine wpAny_handleBy_cons (codeAny_handlers_test (Zdi (X:=X.suite e) (I5.suite e) hg cE.mgx ?_ hdb)) (by intro q; cases q)
  obtain ⟨oe,vs,T,oT,tvs,he5,hc5,_⟩:=id a5.tr
  refine ZhF (s:={ s2 with heap:=h5 }) I5.kIn cE.ty cE.be cE.cl hm he5 hc5 ?_
  refine codeAny_handlers_suite_as (Air.off (s:={ s2 with heap:=h5 }) a5 λh6 a6 u6=>?_)
  have U6:=ZhD U a.fr ((u4.trans u5).trans u6) a6.st in1 in2
  have I6:Inv X pins σ1 H2 { s2 with heap:=h6 }:=I1.call' (ch:=[]) os U6 a6.hok bare λb z=>absurd z (by simp)
  obtain ⟨oe6,vs6,T6,oT6,tvs6,he6,hc6,hd6,hv6,_⟩:=id a6.tr
  have ne1:s1.heap.get? e=none:=by
    cases q:s1.heap.get? e with
    | none=>rfl
    | some o =>
      by_cases hb:e∈frs X.stack
      · obtain ⟨_,o',z,nf⟩:=a6.fr.mem (by rw[hstk] at hb; exact hb)
        rw[he6] at z; cases z; exact absurd hv6 (nf _)
      · obtain ⟨o',z⟩:=in2 e o q hb
        rw[a.nb] at z; cases z
  have I7:=I6.track I1 ne1 a6.free he6 hc6 hd6 hv6
  refine Zc4 (X:=X) (v:=.ref e) I7 hN hi (.inl hl) rfl (λs8 I8=>?_) (.inr hl)
  refine wpAny_mono (hs e pins s8 _ _ _ (I8.suite e) (k e a6.free)) (λf s9 q=>?_) λ_ _ z=>False.elim z
  cases f with
  | brk=>obtain ⟨_,_,_,z⟩:=q; exact False.elim z
  | cont=>obtain ⟨_,_,_,z⟩:=q; exact False.elim z
  | ret u=>obtain ⟨_,_,_,_,_,z⟩:=q; exact False.elim z
  | next =>
    obtain ⟨σ9,H9,J,q⟩:=q
    have I9:=J.unsuite I.ok
    obtain ⟨m,hn,lk⟩:=id I9.loc
    refine wpAny_nameGoes_keeps hl hn (by rw[I.ok.kind]; rfl) λh' v hn' sb=>?_
    exact ⟨_,_,I9.drop hN hi hn lk hn' sb,q⟩
end
end L2
namespace L2
open PySem PySem.Spec PyProof.Rows
inductive TyX (K:PySem.W.Frag) (H:Hp):V->Value->Prop where
  | of {x:V} {t:Value} (h:Zir K H x t):TyX K H x t
  | exc {e C:Addr} (h:H e=some (Zm8 e C none)) (c:XCls K C):TyX K H (.ref e) (.ref C)
inductive Zo4 (K:PySem.W.Frag) (H:Hp) (t:Value):V->Bool->Prop where
  | ty {T:String} {b:Bool} (h:PySem.W.kitOne K t (.type T)=some b):Zo4 K H t (.ty T) b
  | ref {C:Addr} {b:Bool} (h:PySem.W.kitOne K t (.ref C)=some b):Zo4 K H t (.ref C) b
  | tup {tp:Addr} {cs:List Addr} {b:Bool} (h:H tp=some (.tup (cs.map V.ref))) (q:PySem.W.kitAny K t (cs.map Value.ref)=some b):Zo4 K H t (.ref tp) b
theorem Zhb:∀ {cs:List Addr} {us:List Value},Vals (cs.map V.ref) us->us=cs.map Value.ref
  | [],_,.nil=>rfl
  | _::_,_,.cons r t=>by cases (show _=Value.ref _ from r); rw[Zhb t]; rfl
section
variable{X:Cx}
theorem Zaz:CallR X (.builtin "isinstance") (λxs H Q=>∃x c t b,xs=[x,c]/\TyX X.K H x t/\Zo4 X.K H t c b/\Q (.bl b) H):=by
  intro pins s σ H xs us Q I r h
  obtain ⟨x,c,t,b,rfl,ty,ask,q⟩:=h
  obtain ⟨u,w',rfl,r1,r2⟩:=ZjM r
  have fin:∀tk,EP X pins σ Q (.bool b) { s with toks:=tk }:=λtk=>⟨.bl b,H,I.tok _,rfl,q⟩
  obtain ⟨G,Z,g,hb⟩:∃G:Heap->Prop,PySem.W.KitX X.K u t G/\G s.heap/\u ≠ .builtin "__main__.__loader__#opaque" := by
    cases ty with
    | exc he c =>
      rename_i e C
      cases (show u=Value.ref e from r1)
      obtain ⟨⟨oe,vs,a1,a2,a3,a4⟩,_,_⟩:=(show ObjOk X.prog X.w H s.heap e (Zm8 e C none) from I.hok e _ he)
      refine ⟨_,Zlw c,⟨oe,none,a1,a2,?_,?_⟩,λz=>nomatch z⟩
      · unfold PySem.W.notCls; rw[a4]
      · rw[a3]; trivial
    | of ty =>
      cases ty with
      | non=>cases (show u=Value.none from r1); exact ⟨_,PySem.W.kitx_none,True.intro,λz=>nomatch z⟩
      | bl y=>cases (show u=Value.bool y from r1); exact ⟨_,PySem.W.kitx_bool,True.intro,λz=>nomatch z⟩
      | int i=>obtain ⟨t,q⟩:=(show ∃t,u=Value.int i t from r1); cases q; exact ⟨_,PySem.W.kitx_int,True.intro,λz=>nomatch z⟩
      | str y=>obtain ⟨t,q⟩:=(show ∃t,u=Value.str y t from r1); cases q; exact ⟨_,PySem.W.kitx_str,True.intro,λz=>nomatch z⟩
      | flt y=>obtain ⟨t,q⟩:=(show ∃t,u=Value.float y t from r1); cases q; exact ⟨_,PySem.W.kitx_float,True.intro,λz=>nomatch z⟩
      | @lst a xs ea =>
        cases (show u=Value.ref a from r1)
        obtain ⟨_,_,n,_,h1⟩:=(show ObjOk X.prog X.w H s.heap a (.lst xs) from I.hok a _ ea)
        exact ⟨_,PySem.W.kitx_list,⟨_,h1,rfl⟩,λz=>nomatch z⟩
      | @frz a ob xs ea =>
        cases (show u=Value.ref a from r1)
        obtain ⟨_,_,_,n,_,h1⟩:=(show ObjOk X.prog X.w H s.heap a (.frz ob (.lst xs)) from I.hok a _ ea)
        exact ⟨_,PySem.W.kitx_list,⟨_,h1,rfl⟩,λz=>nomatch z⟩
      | @tup a xs ea =>
        cases (show u=Value.ref a from r1)
        obtain ⟨_,_,_,p⟩:=(show ObjOk X.prog X.w H s.heap a (.tup xs) from I.hok a _ ea)
        obtain ⟨o,h1,h2,_⟩:=p
        exact ⟨_,PySem.W.kitx_tuple,⟨o,h1,h2⟩,λz=>nomatch z⟩
      | @dK a kvs ea =>
        cases (show u=Value.ref a from r1)
        obtain ⟨_,_,vs,_,p⟩:=(show ObjOk X.prog X.w H s.heap a (.dK kvs) from I.hok a _ ea)
        obtain ⟨o,es,ep,h1,h2,_⟩:=p
        exact ⟨_,PySem.W.kitx_dict,⟨o,h1,h2.1⟩,λz=>nomatch z⟩
      | @dT a kvs ea =>
        cases (show u=Value.ref a from r1)
        obtain ⟨_,_,xs,_,o,es,ep,h1,h2,_⟩:=(show ObjOk X.prog X.w H s.heap a (.dT kvs) from I.hok a _ ea)
        exact ⟨_,PySem.W.kitx_dict,⟨o,h1,h2.1⟩,λz=>nomatch z⟩
      | @ins a C dx fs ea cl ha hn htk hm =>
        cases (show u=Value.ref a from r1)
        obtain ⟨mA,O,_⟩:=ZeR I.hok ea
        obtain ⟨od,J,_⟩:=O.look
        exact ⟨_,PySem.W.kitx_own (cl.get _) cl.hd ha hn htk hm,J,λz=>nomatch z⟩
  cases ask with
  | ty k=>cases (show w'=Value.type _ from r2); exact PySem.W.kia_one Z I.kIn g k hb fin
  | ref k=>cases (show w'=Value.ref _ from r2); exact PySem.W.kia_one Z I.kIn g k hb fin
  | @tup tp cs b ht k =>
    cases (show w'=Value.ref tp from r2)
    obtain ⟨_,its,rv,o,h1,h2,n,h3⟩:=(show ObjOk X.prog X.w H s.heap tp (.tup (cs.map V.ref)) from I.hok tp _ ht)
    obtain ⟨oc,od,odt,osl⟩:=o
    dsimp only at h2 h3
    subst h2 h3
    exact PySem.W.kia_tup Z I.kIn g h1 (by rw[Zhb rv]; exact k) hb fin
end
theorem Zm9{K:PySem.W.Frag}{C D:Addr}{b:Bool}(hc:(PySem.W.clsIn K D).isSome=true)(ht:PySem.W.typeIn K (.ref D)=some (.type "type")) (hm:PySem.W.mroIn K C (.ref D)=some b) (hne:C≠D):PySem.W.kitOne K (.ref C) (.ref D)=some b:=by
  unfold PySem.W.kitOne PySem.W.kitCls
  rw[if_neg (λz=>hne (Value.ref.inj (beq_iff_eq.mp z)))]
  show (if ((PySem.W.clsIn K D).isSome&&PySem.W.typeIn K (.ref D)==some (.type "type"))=true then PySem.W.subIn K (.ref C) (.ref D) else none)=some b
  rw[hc,ht]
  exact hm
theorem Zly{K:PySem.W.Frag}{C:Addr}:PySem.W.kitOne K (.ref C) (.ref C)=some true:=by
  unfold PySem.W.kitOne
  rw[if_pos (beq_iff_eq.mpr rfl)]
theorem Zna{K:PySem.W.Frag}{C:Addr}{T:String}{b:Bool}(h1:PySem.W.kitMeta T=true)(hm:PySem.W.mroIn K C (.type T)=some b):PySem.W.kitOne K (.ref C) (.type T)=some b:=by
  unfold PySem.W.kitOne PySem.W.kitCls
  rw[if_neg (λz=>nomatch (beq_iff_eq.mp z:Value.ref C=Value.type T))]
  show (if PySem.W.kitMeta T=true then PySem.W.subIn K (.ref C) (.type T) else none)=some b
  rw[if_pos h1]
  exact hm
theorem Zpo(K:PySem.W.Frag){C:Addr}(hm:PySem.W.mroIn K C (.type "ValueError")=some true):PySem.W.kitOne K (.ref C) (.type "ValueError")=some true:=Zna (by decide +kernel) hm
end L2
namespace L2
open PySem PySem.Spec PyProof.Rows
structure FunD (K:PySem.W.Frag) (x qual:Str) (st:Stmt) (f:Addr) (fd:FuncData) (T:Addr) (items:Array Value):Prop where
  ex:∃(oc:Value) (od:Option Addr) (kV doc pm:Value) (an:Option Addr) (cdv ct:Value) (osl:Array (Option Value)),
    fd=PySem.W.fnOf x qual (Zb7 st) (Zbt st) (Zah st) (.ref T) kV doc pm an cdv ct/\K.lookup f=some ⟨oc,od,.func fd,osl⟩/\PySem.W.codeIn K cdv qual=true
  tp:∃(tc:Value) (td:Option Addr) (n:Nat) (tsl:Array (Option Value)),K.lookup T=some ⟨tc,td,.seq items n,tsl⟩
  kp:PySem.W.keepIn K (.ref f)=true
section
variable{P:Program}{w:World}{K:PySem.W.Frag}{mg:Str->Option Value}{base:Heap}{x qual m:Str}{st:Stmt}{f C T:Addr}{fd:FuncData}{items:Array Value}{N ps:List Str}{k:Nat}{sp:Sp}{ds:List Value}{dvs:List V}
theorem FunD.okx(F:FunD K x qual st f fd T items)(S:FnScope N ps (Zah st))(len:∀vs H Q E,sp vs H Q E->vs.length=ps.length)
    (hbody:∀(cdv:Value) (A:Around) (outer:List Env) (s:Shared) (H:Hp) (vs:List V) (Q:VK) (E:XK),Room k (A.deeper (envOfC qual (Zah st) s.heap.objs.size f cdv))->sp vs H Q E →
      ∃t,PSs (cxX P w K mg base N qual (Zah st) f cdv A outer s H E) (Zbt st) t/\t { nx:=λ_ H'=>Q .non H',rt:=Q } (start N vs) H):FnOk P w K mg base (CXx P w) (k+1) f fd ps sp:=by
  obtain ⟨oc,od,kV,doc,pm,an,cdv,ct,osl,rfl,lk,hcd⟩:=F.ex
  exact ZmU lk hcd S len λA outer s H vs Q E hr hsp=>hbody cdv A outer s H vs Q E hr hsp
theorem FunD.binds(F:FunD K x qual st f fd T items)(h:∀ (kV doc pm:Value) (an:Option Addr) (cdv ct:Value) (us:List Value),(us ++ ds).length = ps.length →
      ∃g:Option (Array Value)->Sem (List (Str×Value)),bindArgs (PySem.W.fnOf x qual (Zb7 st) (Zbt st) (Zah st) (.ref T) kV doc pm an cdv ct) ⟨us,[]⟩=seqItems? (.ref T) >>= g/\g (some items)=pure (ps.zip (us++ds))):Binds K fd ps ds:=by
  obtain ⟨oc,od,kV,doc,pm,an,cdv,ct,osl,rfl,lk,hcd⟩:=F.ex
  obtain ⟨tc,td,n,tsl,lt⟩:=F.tp
  intro s us KX hl
  obtain ⟨g,h1,h2⟩:=h kV doc pm an cdv ct us hl
  exact .of_defaults rfl (KX _ _ lt) rfl h1 h2
structure HereD (K:PySem.W.Frag) (C:Addr) (m qual:Str) (st:Stmt) (items:Array Value):Prop where
  ex:∃(f:Addr) (fd:FuncData) (T:Addr),FunD K m qual st f fd T items/\Meth K C m f
theorem HereD.hasM(h:HereD K C m qual st items)(hv:Vals dvs ds)(b:∀f fd T,FunD K m qual st f fd T items->Binds K fd ps ds)(ok:∀f fd T,FunD K m qual st f fd T items->FnOk P w K mg base CX0 k f fd ps sp):HasM P w K mg base C m k ps dvs sp :=
  let ⟨f,fd,T,F,M⟩:=h.ex
  ⟨f,fd,ds,ok f fd T F,M,b f fd T F,hv⟩
theorem HereD.hasMX(h:HereD K C m qual st items)(hv:Vals dvs ds)(b:∀f fd T,FunD K m qual st f fd T items->Binds K fd ps ds)(ok:∀f fd T,FunD K m qual st f fd T items->FnOk P w K mg base (CXx P w) k f fd ps sp):HasMX P w K mg base C m k ps dvs sp :=
  let ⟨f,fd,T,F,M⟩:=h.ex
  ⟨f,fd,ds,ok f fd T F,M,b f fd T F,hv⟩
theorem hereD_mk{oc:Value}{od an:Option Addr}{osl:Array (Option Value)}{kV doc pm cdv ct tc:Value}{td:Option Addr}{n:Nat}{tsl:Array (Option Value)}(a:PySem.W.findIn K (.ref C) m=some (some (.ref f)))(i:PySem.W.isFn K (.ref f)=true)
    (l:K.lookup f=some ⟨oc,od,.func (PySem.W.fnOf m qual (Zb7 st) (Zbt st) (Zah st) (.ref T) kV doc pm an cdv ct),osl⟩) (lt:K.lookup T=some ⟨tc,td,.seq items n,tsl⟩)
    (c:PySem.W.codeIn K cdv qual=true) (k:PySem.W.keepIn K (.ref f)=true):HereD K C m qual st items:=⟨f,_,T,⟨⟨oc,od,kV,doc,pm,an,cdv,ct,osl,rfl,l,c⟩,⟨tc,td,n,tsl,lt⟩,k⟩,a,i,k⟩
end
theorem Zlz{us:List Value}(h:us.length=1):∃a,us=[a]:=match us,h with | [a],_=>⟨a,rfl⟩
theorem ZdJ{us:List Value}(h:us.length=2):∃a b,us=[a,b]:=match us,h with | [a,b],_=>⟨a,b,rfl⟩
theorem Zew{us:List Value}(h:us.length=3):∃a b c,us=[a,b,c]:=match us,h with | [a,b,c],_=>⟨a,b,c,rfl⟩
theorem ZnV{us:List Value}(h:us.length=4):∃a b c d,us=[a,b,c,d]:=match us,h with | [a,b,c,d],_=>⟨a,b,c,d,rfl⟩
end L2
namespace L2
open PySem PySem.Spec PyProof.Rows
section
variable{X:Cx}{pins:List (Addr×Obj)}{σ:St}{H:Hp}{s:Shared}{h':Heap}{fp:List Addr}{t':Nat}
theorem Inv.multi(I:Inv X pins σ H s)(hf:∀b∈fp,ZjH X pins H b)(k:∀c o,c∉fp->s.heap.get? c=some o->h'.get? c=some o):Inv X pins σ H { s with heap:=h',toks:=t' }:=by
  refine I.call (ch:=fp) ⟨λb o q n hb hx=>k b o hx q,λb o q n hb hx=>⟨o.slots,k b o hx q⟩,λb o q n hx=>n,λb o q hx=>⟨o,k b o hx q⟩,λ_ _ q=>q,λ_ _ _ q=>q,λb ps q=>⟨#[],by rw[q]; simp⟩⟩ (λb u q=>?_) I.bare λb hb=>?_
  · refine (I.hok b u q).stay (λc v hc z=>k c v (λm=>?_) z) (λ_ z=>z) λ_ _ z=>z
    rcases hc with rfl | hc
    · rw[(hf c m).1] at q; cases q
    · rw[(hf c m).1] at hc; cases hc
  · obtain ⟨_,a,_,b,c,d⟩:=hf b hb
    exact ⟨b,a,c,d⟩
theorem Inv.multiT{T:Addr}{xs:List V}{its:List Value}(I:Inv X pins σ H s)(hf:∀b∈fp,ZjH X pins H b)(k:∀c o,c∉fp->s.heap.get? c=some o->h'.get? c=some o)(hT:s.heap.objs.size<=T)(ht:IsTup h' T its.toArray)(r:Vals xs its)(hz:xs.length<=sizeLine) :
    Inv X pins σ (upd H T (.tup xs)) { s with heap:=h',toks:=t' }:=by
  have nT:=I.hok.fresh hT
  have nx:∀b u,H b=some u->b≠T:=λb u q z=>by subst z; rw[nT] at q; cases q
  refine I.call (ch:=fp) ⟨λb o q n hb hx=>k b o hx q,λb o q n hb hx=>⟨o.slots,k b o hx q⟩,λb o q n hx=>?_,λb o q hx=>⟨o,k b o hx q⟩,λb _ q=>by rw[Zav (nx b _ q)]; exact q,λb _ _ q=>by rw[Zav (nx b _ q)]; exact q,λb ps q=>⟨#[],by rw[Zav (nx b _ q),q]; simp⟩⟩ (λb u q=>?_) I.bare λb hb=>?_
  · rw[Zav (Qg (Q7 (Heap.lt_size q) hT))]; exact n
  · by_cases hb:b=T
    · subst hb
      rw[Zaf] at q
      cases q
      exact ⟨hz,its,r,ht⟩
    · rw[Zav hb] at q
      refine (I.hok b u q).stay (λc v hc z=>k c v (λm=>?_) z) (λc z=>by rw[Zav (nx c _ z)]; exact z) λc _ z=>by rw[Zav (nx c _ z)]; exact z
      rcases hc with rfl | hc
      · rw[(hf c m).1] at q; cases q
      · rw[(hf c m).1] at hc; cases hc
  · obtain ⟨_,a,_,b,c,d⟩:=hf b hb
    exact ⟨b,a,c,d⟩
end
def Itz(K:PySem.W.Frag)(a b:Addr):It :=
  ⟨λi H=>∃xs ys x y,SqL K H a xs/\SqL K H b ys/\xs[i]?=some x/\ys[i]?=some y,
   λi H v H'=>∃T,H T=none/\v = .ref T/\∃x y,(∀xs,SqL K H a xs->xs[i]?=some x)/\(∀ys,SqL K H b ys->ys[i]?=some y)/\H'=upd H T (.tup [x,y]),
   λi H=>∃xs ys,SqL K H a xs/\SqL K H b ys/\(xs.length<=i\/ys.length<=i)⟩
theorem ZlA{P:Program}{w:World}{K:PySem.W.Frag}{elts:List Expr}{k0}{pos:Pos}{a b z TI TO i1 i2:Addr}(D:ZipApart z TI TO i1 i2 a b) :
    Turn P w K (.Tuple elts k0 pos) (Itz K a b) [z,TI,TO,i1,i2] z (λi h=>IsZip h z TI TO .none/\IsPair h TI (.ref i1) (.ref i2)/\(∃p q,IsPair h TO p q)/\h.IsListIter i1 a i/\h.IsListIter i2 b i) where
  mem:=by simp
  obj:=λi h ⟨hz,hTI,⟨p,q,hTO⟩,⟨o1,e1,_,d1⟩,⟨o2,e2,_,d2⟩⟩ c hc=>by
    simp only[Q9,W8,or_false] at hc
    rcases hc with rfl | rfl | rfl | rfl | rfl
    · exact ⟨_,hz,λv e=>nomatch (show Data.fields _=Data.cell v from e)⟩
    · exact ⟨_,hTI,λv e=>nomatch (show Data.seq _ _=Data.cell v from e)⟩
    · exact ⟨_,hTO,λv e=>nomatch (show Data.seq _ _=Data.cell v from e)⟩
    · exact ⟨o1,e1,λv e=>by rw[d1] at e; cases e⟩
    · exact ⟨o2,e2,λv e=>by rw[d2] at e; cases e⟩
  keep:=λi h h' ⟨hz,hTI,⟨p,q,hTO⟩,h1,h2⟩ k =>
    ⟨k z (by simp) _ hz,k TI (by simp) _ hTI,⟨p,q,k TO (by simp) _ hTO⟩,h1.at λo e=>k i1 (by simp) o e,h2.at λo e=>k i2 (by simp) o e⟩
  item:=by
    intro X hP hw hK hc i pins s σ H E I hf ⟨hz,hTI,⟨p,q,hTO⟩,h1,h2⟩ hg
    subst hP hw hK
    obtain ⟨xs,ys,x,y,hq1,hq2,hx,hy⟩:=hg
    obtain ⟨its,rv,pl,_⟩:=I.list hq1
    obtain ⟨jts,rw',pl2,_⟩:=I.list hq2
    obtain ⟨u,hu,ru⟩:=rv.get hx
    obtain ⟨v,hv,rw2⟩:=rw'.get hy
    refine wpAny_pyNext_zip_item D hz hTI hTO h1 h2 pl.isList pl2.isList (x:=u) (y:=v) (by simpa using hu) (by simpa using hv) λh' a1 a2 a3 a4 a5 a6 a7=>?_
    refine ⟨_,rfl,wpAny_letOwnedTupleGo_zip (s:={ s with heap:=h' }) a1 λh2' b1 b2=>?_⟩
    have kz:∀c o,c∉[z,TI,TO,i1,i2]->s.heap.get? c=some o->h2'.get? c=some o:=λc o hc e=>by
      simp only[Q9,W8,or_false,not_or] at hc
      obtain ⟨n1,n2,n3,n4,n5⟩:=hc
      exact b2.extBut _ _ n1 (a7 c o n1 n3 n4 n5 e)
    have nTz:s.heap.objs.size≠z:=Up (Heap.lt_size hz)
    have fresh:=I.hok.fresh (Q4 s.heap.objs.size)
    have I2:Inv X pins σ (upd H s.heap.objs.size (.tup [x,y])) { s with heap:=h2' }:=I.multiT (t':=s.toks) (its:=[u,v]) hf kz (Q4 _) ⟨_,b2.extBut _ _ nTz a5,rfl,_,rfl⟩ (.cons ru (.cons rw2 .nil)) (by show 2<=sizeLine; decide)
    refine ⟨.ref s.heap.objs.size,_,I2,rfl,⟨_,fresh,rfl,x,y,λxs' e=>by rw[I.list_inj e hq1]; exact hx,λys' e=>by rw[I.list_inj e hq2]; exact hy,rfl⟩,⟨b1,?_,⟨u,v,?_⟩,a3.extBut b2.extBut D.i1z,a4.extBut b2.extBut D.i2z⟩,λc hc=>?_⟩
    · exact b2.extBut _ _ D.TIz (a7 _ _ D.TIz D.TITO D.TIi1 D.TIi2 hTI)
    · exact b2.extBut _ _ D.TOz a2
    · have lt:c<s.heap.objs.size:=by
        simp only[Q9,W8,or_false] at hc
        obtain ⟨_,e1,_⟩:=id h1
        obtain ⟨_,e2,_⟩:=id h2
        rcases hc with rfl | rfl | rfl | rfl | rfl
        · exact Heap.lt_size hz
        · exact Heap.lt_size hTI
        · exact Heap.lt_size hTO
        · exact Heap.lt_size e1
        · exact Heap.lt_size e2
      rw[Zav (Qg lt)]
      exact (hf c hc).1
  done:=by
    intro X hP hw hK hc i pins s σ H E I hf ⟨hz,hTI,⟨p,q,hTO⟩,h1,h2⟩ hg
    subst hP hw hK
    obtain ⟨xs,ys,hq1,hq2,hx⟩:=hg
    obtain ⟨its,rv,pl,_⟩:=I.list hq1
    obtain ⟨jts,rw',pl2,_⟩:=I.list hq2
    have l1:=rv.length
    have l2:=rw'.length
    refine wpAny_pyNext_zip_end (I.ok.hd hc) D hz hTI hTO h1 h2 pl.isList pl2.isList ?_ λh' k=>⟨rfl,I.multi (t':=s.toks) hf λc o hc e=>?_⟩
    · rcases hx with hx | hx
      · left; simp; omega
      · right; simp; omega
    · simp only[Q9,W8,or_false,not_or] at hc
      obtain ⟨n1,n2,n3,n4,n5⟩:=hc
      exact k c o n1 n3 n4 n5 e
  self:=λ_ _ _ _ _ ⟨hz,_⟩ h=>wpAny_pyIter_zip hz h
section
variable{X:Cx}
def Zqg(K:PySem.W.Frag)(ta:TA):TI:=λσ H R=>ta σ H λvs H1=>∃a b,vs=[.ref a,.ref b]/\(∃xs,SqL K H1 a xs)/\(∃ys,SqL K H1 b ys)/\R (Itz K a b) H1
theorem Zkc{e1 e2:Expr}{elts:List Expr}{k0}{tpos:Pos}{ta:TA}{p pos:Pos}(hg:Gl X "zip") (hm:X.mg "zip" = none) (ha:PA X [e1,e2] ta) (hs:starEach [e1,e2] X.env=[(false,eval e1 X.env),(false,eval e2 X.env)]:=by rfl) (hs2:starEach [e2] X.env=[(false,eval e2 X.env)]:=by rfl) :
    PI X (.Tuple elts k0 tpos) (.Call (.Name "zip" p) [e1,e2] [] pos) (Zqg X.K ta):=by
  intro pins s σ H R I h
  refine wpAny_Call_Name_kw (ZdD I hg hm PyProof.Rows.Boot.«zip» (PyProof.Rows.callWith_type1 (thn (ha pos pins s σ H _ I h) λus s1 ⟨vs,H1,I1,r1,q1⟩=>?_) (by rw[hs,hs2]) (by rw[hs2]; rfl)))
  obtain ⟨a,b,e,⟨xs,hq1⟩,⟨ys,hq2⟩,q⟩:=q1
  subst e
  obtain ⟨u,v,rfl,ru,rv⟩:=ZjM r1
  cases (show u=Value.ref a from ru)
  cases (show v=Value.ref b from rv)
  obtain ⟨its,_,pl,_⟩:=I1.list hq1
  obtain ⟨jts,_,pl2,_⟩:=I1.list hq2
  have la:a<s1.heap.objs.size:=by obtain ⟨o,e,_⟩:=pl.isList; exact Heap.lt_size e
  have lb:b<s1.heap.objs.size:=by obtain ⟨o,e,_⟩:=pl2.isList; exact Heap.lt_size e
  refine call_zip_2 pl.isList pl2.isList λh' hz hTI hTO h1 h2 hsz k=>?_
  refine wpAny_pyIter_zip (s:={ s1 with heap:=h' }) hz ?_
  refine ⟨_,[s1.heap.objs.size+4,s1.heap.objs.size+2,s1.heap.objs.size+3,s1.heap.objs.size,s1.heap.objs.size+1],_,_,H1,rfl,I1.kept (t':=s1.toks) k,ZlA (zipApart_new la lb),⟨hz,hTI,⟨_,_,hTO⟩,h1,h2⟩,λc hc=>?_,q⟩
  have hc':s1.heap.objs.size<=c:=by
    simp only[Q9,W8,or_false] at hc
    rcases hc with rfl | rfl | rfl | rfl | rfl <;> omega
  exact I1.fpOk hc' (I1.hok.fresh hc')
end
theorem Znb{K:PySem.W.Frag}{a b:Addr}{xs ys:List V}{g:TG}{tb:TS}{D:Ends}{σ:St}{H:Hp}(Pv:Nat->St->Hp->Prop)(h0:Pv 0 σ H)(hl:∀i σ H,Pv i σ H->SqL K H a xs/\SqL K H b ys)
    (hs:∀i x y T σ H,xs[i]?=some x->ys[i]?=some y->H T=none->Pv i σ H->g (.ref T) σ (upd H T (.tup [x,y])) λσ2 H2=>tb { D with nx:=Pv (i+1),ct:=Pv (i+1),bk:=D.nx } σ2 H2) (hd:∀i σ H,i=min xs.length ys.length->Pv i σ H->D.nx σ H) :
    ∃W:Nat->Nat->St->Hp->Prop,(∃m,W 0 m σ H)/\∀i m σ H,W i m σ H →
      ((Itz K a b).stop i H/\D.nx σ H)\/((Itz K a b).go i H/\∃N:St->Hp->Prop,(∀σ' H',N σ' H'->∃m',m'<m/\W (i+1) m' σ' H')/\∀x H',(Itz K a b).yld i H x H'->g x σ H' λσ2 H2=>tb { D with nx:=N,ct:=N,bk:=D.nx } σ2 H2):=by
  refine ⟨λi m σ H=>m=min xs.length ys.length-i/\i<=min xs.length ys.length/\Pv i σ H,⟨_,rfl,Qh _,h0⟩,?_⟩
  rintro i m σ H ⟨rfl,hi,p⟩
  obtain ⟨q1,q2⟩:=hl i σ H p
  by_cases hlt:i<min xs.length ys.length
  · have l1:i<xs.length:=by omega
    have l2:i<ys.length:=by omega
    refine .inr ⟨⟨xs,ys,xs[i],ys[i],q1,q2,by simp[l1],by simp[l2]⟩,Pv (i+1),λσ' H' p'=>⟨min xs.length ys.length-(i+1),⋯,rfl,hlt,p'⟩,λx H' y=>?_⟩
    obtain ⟨T,nT,rfl,u,v,e1,e2,rfl⟩:=y
    exact hs i u v T σ H (e1 xs q1) (e2 ys q2) nT p
  · exact .inl ⟨⟨xs,ys,q1,q2,⋯⟩,hd i σ H ⋯ p⟩
section
variable{caps:List (Nat×Str)}{te:TE}
theorem Zpp{x y:V}{cs:List (Option V)}:∀(i:Nat) v,((none:Option V)::none::cs)[i]?=some (some v)->((some x)::(some y)::cs)[i]?=some (some v)
  | 0,v,h=>by simp at h
  | 1,v,h=>by simp at h
  | i+2,v,h=>by simpa using h
end
end L2
namespace L2
open PySem PySem.Spec PyProof.Rows
theorem Zb8(n:Nat):(List.range n).all (λ_=>true)=true:=by simp
def Bits(n:Nat)(i:Int):Prop:=Builtin.Int.intBits i<=n
theorem ZhG(i:Int):(PySem.W.WData.int i).weight=Builtin.Int.intBits i:=by
  simp only[PySem.W.WData.weight,Builtin.Int.intBits]
theorem ZfT:∀(ns:List Int) (n:Nat),PySem.W.WData.weightAll (ns.map PySem.W.WData.int)<=n->∀i∈ns,Bits n i
  | [],_,_,_,h=>nomatch h
  | j::ns,n,hw,i,h=>by
    simp only[Uj,PySem.W.WData.weightAll] at hw
    rcases Q9.mp h with rfl | h
    · show Builtin.Int.intBits i<=n
      rw[<-ZhG]; omega
    · exact ZfT ns n ⋯ i h
theorem Zhc{l:PySem.W.OpenLaw}{n:Nat}{q:Program}{loose:List Str}{XP:(Str->Option Value)->Heap->Prop}{YP:World->Heap->Prop}{d:DefRec}
    (hn:l.most=some n) (hdf:d.params.defaults=[])
    (call:∀(w:World) (s₀ s₁:Shared) (mg mb:Str->Option Value) (fa:Addr) (a:Addr) (vs:List Value) (ns:List Int),
      PySem.W.Ground q loose [] XP w s₀ mg mb s₁.heap->YP w s₁.heap->mg d.name=some (.ref fa) →
      s₁.heap.get? a=some { cls:=.type "list", data:=.seq vs.toArray }->IntsAre vs ns->ns.length<=n->(∀i∈ns,Bits 1048576 i)->s₁.gens=#[] →
      codeAny (model l.prog w) callerA (.call (.ref fa) ⟨[.ref a],[]⟩) (λr s'=>r = .ok (.ret (.bool true))/\OldK s₁.heap s'.heap/\s'.os=s₁.os/\AllBare s'.gens) s₁) :
    PySem.W.WalkO q loose XP YP l.row.toRowW d [] (λf vs=>PySem.call f vs):=by
  refine λw s₀ s₁ mg mb G Y fa o pm cd doc dV kV ho hd hcd hD hmg hg args vals as hpre hlay hrd hwl hlo=>?_
  have hb:∀(a:Addr) (vs:List Value) (ns:List Int),vals=[Value.ref a]->args=[PySem.W.WData.list (ns.map PySem.W.WData.int)]->∀i∈ns,Bits 1048576 i:=by
    rintro a vs ns-rfl
    refine ZfT ns _ ?_
    have h1:(PySem.W.WData.list (ns.map PySem.W.WData.int)).layable=true:=(PySem.W.layW_cons hlay).1
    unfold PySem.W.WData.layable at h1
    simp only[Bool.and_eq_true,decide_eq_true_eq] at h1
    have:=h1.2
    simp only[PySem.W.WData.weight] at this
    exact this
  obtain rfl:dV = .none:=PySem.W.Dflts.none hD hdf
  obtain rfl:kV = .none:=PySem.W.Dflts.noKw hD
  obtain ⟨a,vs,ns,rfl,rfl,hobj,hints,hlen⟩:=Att.script_of hn hpre hwl
  refine PySem.W.enter_call (codeAny_mono (call w s₀ s₁ mg mb fa a vs ns G Y hmg hobj hints hlen (hb a vs ns rfl rfl) hg) λr s' hq=>?_)
  obtain ⟨rfl,h2,h3,h4⟩:=hq
  exact ⟨.inl ⟨.bool true,.bool true,[],rfl,λ_=>rfl,.bool true,Att.post_true l _,λ_=>⟨List.Pairwise.nil,λ_ hm=>(nomatch hm)⟩⟩,h2,h3,h4⟩
theorem walk_ofB{l:PySem.W.OpenLaw}{n k:Nat}{q:Program}{loose:List Str}{XP:(Str->Option Value)->Heap->Prop}{YP:World->Heap->Prop}{d:DefRec}{K:Params->PySem.W.Frag}{CX:World->CXT}{sp:World->Sp}{x:Str}
    (hn:l.most=some n) (hn2:n<=sizeLine) (hdf:d.params.defaults=[]) (hr:Room k callerA)
    (hY:∀(w:World) (h:Heap),YP w h->(K w.params).In h)
    (F:∀(w:World) (mg:Str->Option Value) (fa:Addr) (h:Heap),(K w.params).In h->h.Ns mainGlobals mg->mg d.name=some (.ref fa) →
      ∃fd:FuncData,(∀(s:Shared) (u:Value),BindsTo s fd ⟨[u],[]⟩ [(x,u)]) ∧
        ∀base:Heap,(K w.params).In base->base.Ns mainGlobals mg->FnOk l.prog w (K w.params) mg base (CX w) k fa fd [x] (sp w))
    (hsp:∀(w:World) (H:Hp) (a:Addr) (ns:List Int),ns.length<=n->(∀i∈ns,Bits 1048576 i)->Zo3 H->SqL (K w.params) H a (ns.map V.int)->sp w [.ref a] H (λv _=>v = .bl true) λ_ _ _=>False)
    (hCX:∀(w:World) (H:Hp) (s:Shared) (e:Value) (s':Shared),CX w [] H s (λ_ _ _=>False) e s'->False) :
    PySem.W.WalkO q loose XP YP l.row.toRowW d [] (λf vs=>PySem.call f vs):=by
  refine Zhc hn hdf λw s₀ s₁ mg mb fa a vs ns G Y hmg hobj hints hlen hbits hg=>?_
  have KX:=hY w _ Y
  obtain ⟨fd,hb,hF⟩:=F w mg fa _ KX G.T.g hmg
  exact Ziu KX G.T.g G.T.b G.T.builtins G.T.nolimit hg hobj hints (Q0 hlen hn2) hr hF hb (λH hO hS=>hsp w H a ns hlen hbits hO hS) λH e s'=>hCX w H s₁ e s'
theorem Bits.lt{n:Nat}{i:Int}(h:Bits n i):i.natAbs<2^n:=by
  unfold Bits Builtin.Int.intBits at h
  by_cases h0:i=0
  · subst h0; exact Uk (by simp)
  · have:i.natAbs.log2+1<=n:=by simpa [h0] using h
    exact (Nat.log2_lt ⋯).mp ⋯
theorem Bits.of{n:Nat}{i:Int}(h:i.natAbs<2^n):Bits n i:=Zdk h
theorem Bits.cell{n:Nat}{c k:Int}(h:Bits n c)(h0:0<=k)(h1:k<256):Bits (n+17) (c*(k+2)+k*k):=by
  refine Bits.of ?_
  have hc:=h.lt
  have e1:(c*(k+2)).natAbs<=c.natAbs*258:=by
    rw[Qt]
    exact W6 _ ⋯
  have e2:(k*k).natAbs<=256*256:=by
    rw[Qt]
    exact Qm ⋯ ⋯
  have e3:2^(n+17)=2^n*131072:=by rw[U0]
  have e4:1<=2^n:=Uk (by simp)
  rw[e3]
  generalize 2^n=P at *
  omega
theorem Bits.mul{i j:Int}(h:Bits 2097152 i)(h':Bits 2097152 j):IntMulOk i j:=by
  have h1:Builtin.Int.intBits i<=2097152:=h
  have h2:Builtin.Int.intBits j<=2097152:=h'
  have h3:Builtin.Int.intTooBig (Builtin.Int.intBits i+Builtin.Int.intBits j)=false:=by
    unfold Builtin.Int.intTooBig
    rw[bitsLine_eq]
    exact decide_eq_false ⋯
  unfold IntMulOk
  rw[h3]
  simp
end L2
namespace L2
open PySem PySem.Spec PyProof.Rows
section
variable{X:Cx}
theorem Zdb(K:PySem.W.Frag)(h:X.K=K):IxR X (Zpl K):=by subst h; exact Zau
theorem Zbn(K:PySem.W.Frag)(h:X.K=K):CallR X (.type "list") (λxs H Q=>∃p ys,xs=[.ref p]/\(SqL K H p ys\/SqT K H p ys)/\∀l,H l=none->Q (.ref l) (upd H l (.lst ys))):=by subst h; exact ZbZ
structure CxIs (X:Cx) (P:Program) (w:World) (K:PySem.W.Frag) (mg:Str->Option Value) (base:Heap):Prop where
  p:X.prog=P
  w:X.w=w
  k:X.K=K
  m:X.mg=mg
  b:X.base=base
variable{o e:Expr}{es:List Expr}{m:Str}{apos pos:Pos}{ta:TE}{t:TA}{k:Nat}{E:St->XK}
theorem Zkd{pl:Sem Bool}{P:Program}{w:World}{K:PySem.W.Frag}{mg:Str->Option Value}{base:Heap}(hX:CxIs X P w K mg base)(he:PE X o ta)(hx:Zha X E)(hr:Room k X.A)(ha:PA X (e::es) t)
    (hst:starEach (e::es) X.env=(false,eval e X.env)::starEach es X.env:=by rfl) (hpl:(backTo pos (starEach es X.env)).any (·.1)=false:=by rfl)
    (ht:eval (.Call (.Attribute o m apos) (e::es) [] pos) X.env=(do
      let ov ← eval o X.env
      standAt apos.atName
      let (f,first) ← holding [ov] (getMethod ov m pl)
      callWith pos f first (backTo pos (starEach (e::es) X.env)) (backToKw pos (keywordEach [] X.env))):=by rfl) :
    PE X (.Call (.Attribute o m apos) (e::es) [] pos) (Zmk P w K mg base m k E ta t):=by
  obtain ⟨rfl,rfl,rfl,rfl,rfl⟩:=hX
  exact ZaS he hx hr ha hst hpl ht
theorem ZeY{pl:Sem Bool}{P:Program}{w:World}{K:PySem.W.Frag}{mg:Str->Option Value}{base:Heap}(hX:CxIs X P w K mg base)(he:PE X o ta)(hr:Room k X.A)(ha:PA X (e::es) t)
    (hst:starEach (e::es) X.env=(false,eval e X.env)::starEach es X.env:=by rfl) (hpl:(backTo pos (starEach es X.env)).any (·.1)=false:=by rfl)
    (ht:eval (.Call (.Attribute o m apos) (e::es) [] pos) X.env=(do
      let ov ← eval o X.env
      standAt apos.atName
      let (f,first) ← holding [ov] (getMethod ov m pl)
      callWith pos f first (backTo pos (starEach (e::es) X.env)) (backToKw pos (keywordEach [] X.env))):=by rfl) :
    PE X (.Call (.Attribute o m apos) (e::es) [] pos) (Zmj P w K mg base m k ta t):=by
  obtain ⟨rfl,rfl,rfl,rfl,rfl⟩:=hX
  exact ZaZ he hr ha hst hpl ht
end
end L2
namespace L2
open PySem PySem.Spec PyProof.Rows
theorem Zke{X:Cx}{pos:Pos}(K:PySem.W.Frag)(h:X.K=K){es:List Expr}{k:Nat}{t:TGs}{n:Nat}(hc:X.calm=true)(h1:PGs X es t)
    (hn:(assignEach es X.env).length=n:=by rfl) (hst:(assignEach es X.env).findIdx? (·.1)=none:=by rfl):PG X (.Tuple es k pos) (Zpb K n t):=by subst h; exact Zmf hc h1 hn hst
theorem Zhd{caps:List (Nat×Str)}{te:TE}{K:PySem.W.Frag}{a b:Addr}{xs ys:List V}{σ:St}{H:Hp}{QL:List V->Hp->Prop}(Pv:Nat->List V->Hp->Prop)(hz:xs.length<=1000)(h0:Pv 0 [] H)(hl:∀i zs H,Pv i zs H->SqL K H a xs/\SqL K H b ys)
    (hs:∀i x y T zs H,xs[i]?=some x->ys[i]?=some y->zs.length=i->H T=none->Pv i zs H->te (some x::some y::caps.map λp=>(σ[p.1]?).join) (upd H T (.tup [x,y])) λv H'=>Pv (i+1) (zs++[v]) H')
    (hd:∀zs H,zs.length=min xs.length ys.length->Pv (min xs.length ys.length) zs H->QL zs H) :
    Zg4 2 caps (Zpb K 2 (ZmM (ZeA 0) (ZmM (ZeA 1) ZpL))) te σ (Itz K a b) H QL:=by
  have hz':xs.length<sizeLine:=ZdF hz
  refine ⟨λi m zs H=>m=min xs.length ys.length-i/\i<=min xs.length ys.length/\zs.length=i/\Pv i zs H,⟨_,rfl,Qh _,rfl,h0⟩,?_⟩
  rintro i m zs H' ⟨rfl,hi,hy,p⟩
  obtain ⟨q1,q2⟩:=hl i zs H' p
  refine ⟨⋯,?_⟩
  by_cases hlt:i<min xs.length ys.length
  · have l1:i<xs.length:=by omega
    have l2:i<ys.length:=by omega
    refine .inr ⟨⟨xs,ys,xs[i],ys[i],q1,q2,by simp[l1],by simp[l2]⟩,⋯,λv H4=>Pv (i+1) (zs++[v]) H4,λv H4 p'=>⟨min xs.length ys.length-(i+1),⋯,rfl,hlt,by rw[Qb,hy]; rfl,p'⟩,λx H2 y=>?_⟩
    obtain ⟨T,nT,rfl,u,v,e1,e2,rfl⟩:=y
    exact ⟨T,[u,v],rfl,SqT.of Zaf,rfl,u,_,rfl,v,_,rfl,rfl,Zpp,hs i u v T zs H' (e1 xs q1) (e2 ys q2) hy nT p⟩
  · have e:i=min xs.length ys.length:=by omega
    subst e
    exact .inl ⟨⟨xs,ys,q1,q2,⋯⟩,hd zs H' hy p⟩
end L2
namespace L2
open PySem PySem.Spec PyProof.Rows
theorem Znc:10^1000<2^4000:=by decide +kernel
theorem ZpR{i j:Int}(h:i.natAbs<=10^1000)(h':j.natAbs<=10^1000):IntMulOk i j :=
  .of_bits (Q0 (Zdk (n:=4000) (Qs h Znc)) ∅) (Q0 (Zdk (n:=4000) (Qs h' Znc)) ∅)
theorem ZlB{j:Int}(h:j.natAbs<=10^1000):j.natAbs.log2<9000:=by
  rcases Nat.eq_zero_or_pos j.natAbs with z | z
  · rw[z]; decide
  · exact Nat.lt_trans ((Nat.log2_lt (Up z)).mpr (Qs h Znc)) ∅
section
variable{X:Cx}
theorem ZeF:OpR X (binaryOp .FloorDiv) (rI (λ_ j=>j≠0/\j.natAbs<=10^1000) λi j => .int (i.fdiv j)):=opI λ_ _ _ _ _ _ _ hc q=>floordiv_int hc.1 q (.inl (PyProof.noPylong_of_log2 (ZlB hc.2)))
theorem Zex:∀ {ns:List Int} {us:List Value},Vals (ns.map V.int) us->IntsAre us ns
  | [],_,.nil => .nil
  | _::_,_,.cons r t=>by obtain ⟨k,rfl⟩:=r; exact .cons _ _ (Zex t)
theorem ZlC(hc:X.calm=true):CallR X (.builtin "sum") (λxs H Q=>∃(p:Addr) (ns:List Int),xs=[.ref p]/\SqL X.K H p (ns.map V.int)/\Q (.int ns.sum) H):=by
  intro pins s σ H xs us Q I r h
  obtain ⟨p,ns,rfl,hq,q⟩:=h
  obtain ⟨u,rfl,rx⟩:=ZgR r
  cases rx
  obtain ⟨its,r',pl,hz⟩:=I.list hq
  have hi:=Zex r'
  obtain ⟨xs,e⟩:=hi.allInts.items
  have hs:(numsOf its).sum=ns.sum:=by rw[hi.numsOf]
  have e2:its=(intItems xs).toList:=by rw[<-e]
  rw[e2,nums_intItems] at hs
  refine sum_intListG (xs:=xs) (I.ok.hd hc) (by rw[<-e]; exact pl.isList) λh' tk t' hk=>?_
  rw[preSum_eq,Wy (by simp)]
  rw[hs]
  exact ⟨.int ns.sum,H,I.kept hk,⟨t',rfl⟩,q⟩
end
end L2
namespace L2
open PySem PySem.Spec PyProof.Rows
structure OneCell (scope:Scope) (x0:Str):Prop where
  one:∀y∈scope.names,y.2 = .cell->y.1=x0
  lk:scope.names.lookup x0=some .cell
  cf:∀n acc,cellsFrom n scope.names acc=(x0,n)::acc
  pc:∀h,pushCells h scope.names=h.push { cls:=.type "cell", data:=.cell none }
section
variable{X:Cx}{tg iter elt:Expr}{scope:Scope}{pos:Pos}{wi:TI}{g:TG}{te:TE}{own:List Str}{caps:List (Nat×Str)}{x0:Str}
end
end L2
namespace L2
open PySem PySem.Spec PyProof.Rows
section
variable{X:Cx}{k:Nat}{f C:Addr}{fd:FuncData}{ps:List Str}{sp:Sp}{dvs:List V}{ds:List Value}{E:St->XK}{x:Str}{p pos:Pos}{e:Expr}{es:List Expr}{t:TA}
end
end L2
namespace L2
open PySem PySem.Spec PyProof.Rows
@[irreducible] def PEI (X:Cx) (e:Expr) (t:TE):Prop:=PE X e t
@[irreducible] def PSI (X:Cx) (st:Stmt) (t:TS):Prop:=PS X st t
@[irreducible] def PSsI (X:Cx) (st:List Stmt) (t:TS):Prop:=PSs X st t
section
variable{X:Cx}{st:Stmt}{ZjF:List Stmt}{t u:TS}{e:Expr}{te:TE}{pos:Pos}
end
end L2
namespace L2
open PySem PySem.Spec PyProof.Rows
section
variable{X:Cx}
end
def Fl(H:Hp)(x:V)(d:PyData):Prop:=(x = .non/\d = .none)\/(∃b,x = .bl b/\d = .bool b)\/(∃i,x = .int i/\d = .int i)\/(∃y,x = .str y/\d = .str y)\/(∃a,x = .ref a/\d = .dict []/\H a=some (.dK []))
def Rp(H:Hp):Nat->V->PyData->Prop
  | 0,x,d=>Fl H x d
  | n+1,x,d=>Fl H x d\/(∃a xs ds,x = .ref a/\d = .list ds/\H a=some (.lst xs)/\xs.length=ds.length/\∀(i:Nat) u e,xs[i]?=some u->ds[i]?=some e->Rp H n u e) ∨
      (∃a xs ds,x = .ref a/\d = .tuple ds/\H a=some (.tup xs)/\xs.length=ds.length/\∀(i:Nat) u e,xs[i]?=some u->ds[i]?=some e->Rp H n u e)
theorem Fl.same{H H':Hp}{x:V}{d:PyData}(h:Fl H x d)(S:Same H H'):Fl H' x d:=by
  rcases h with h | h | h | h | ⟨a,e1,e2,h⟩
  · exact .inl h
  · exact .inr (.inl h)
  · exact .inr (.inr (.inl h))
  · exact .inr (.inr (.inr (.inl h)))
  · exact .inr (.inr (.inr (.inr ⟨a,e1,e2,S _ _ h⟩)))
theorem Rp.same{H H':Hp}(S:Same H H'):∀ {n:Nat} {x:V} {d:PyData},Rp H n x d->Rp H' n x d
  | 0,_,_,h=>Fl.same h S
  | n+1,x,d,h=>by
    rcases h with h | ⟨a,xs,ds,e1,e2,h,l,r⟩ | ⟨a,xs,ds,e1,e2,h,l,r⟩
    · exact .inl (Fl.same h S)
    · exact .inr (.inl ⟨a,xs,ds,e1,e2,S _ _ h,l,λi u e a b=>Rp.same S (r i u e a b)⟩)
    · exact .inr (.inr ⟨a,xs,ds,e1,e2,S _ _ h,l,λi u e a b=>Rp.same S (r i u e a b)⟩)
theorem Rp.up{H:Hp}:∀ {n:Nat} {x:V} {d:PyData},Rp H n x d->Rp H (n+1) x d
  | 0,_,_,h => .inl h
  | n+1,x,d,h=>by
    rcases h with h | ⟨a,xs,ds,e1,e2,h,l,r⟩ | ⟨a,xs,ds,e1,e2,h,l,r⟩
    · exact .inl h
    · exact .inr (.inl ⟨a,xs,ds,e1,e2,h,l,λi u e a b=>Rp.up (r i u e a b)⟩)
    · exact .inr (.inr ⟨a,xs,ds,e1,e2,h,l,λi u e a b=>Rp.up (r i u e a b)⟩)
theorem Rp.mono{H:Hp}{x:V}{d:PyData}{n m:Nat}(h:Rp H n x d)(l:n<=m):Rp H m x d:=by
  induction m with
  | zero => obtain rfl:n = 0:=by omega
            exact h
  | succ m ih =>
    by_cases e:n=m+1
    · subst e; exact h
    · exact (ih ⋯).up
section
variable{X:Cx}{pins:List (Addr×Obj)}{σ:St}{H:Hp}{s:Shared}
theorem Zol(I:Inv X pins σ H s){a:Addr}(h:H a=some (.dK [])):(a==sysModules)=false/\s.heap.DictOf (Zdh X.prog X.w) a []:=by
  obtain ⟨_,z,vs,kv,p⟩:=(show ObjOk X.prog X.w H s.heap a (.dK []) from I.hok a _ h)
  cases kv
  exact ⟨z,p⟩
theorem ZeG{P P':Program}{w w':World}{h:Heap}{a:Addr}(d:h.DictOf (Zdh P w) a []):h.DictOf (Zdh P' w') a []:=by
  obtain ⟨o,es,ep,h1,h2,h3,h4,h5,h6⟩:=d
  refine ⟨o,es,ep,h1,h2,h3,?_,?_,h6⟩
  · have:es.toList=[]:=by cases q:es.toList with
      | nil=>rfl
      | cons x r=>rw[q] at h5; cases h5
    intro e he
    rw[Array.mem_def,this] at he
    cases he
  · cases q:es.toList with
    | nil=>exact .nil
    | cons x r=>rw[q] at h5; cases h5
theorem Fl.rc{A:Around}{x y:V}{v u:Value}{d:PyData}(I:Inv X pins σ H s)(hu:A.units<cLine)(hx:Fl H x d)(hy:Fl H y d)(rx:RelV x v)(ry:RelV y u):SeqAt.RcAt A s v u true/\SeqAt.RcNeAt A s v u false:=by
  rcases hx with ⟨rfl,rfl⟩ | ⟨b,rfl,rfl⟩ | ⟨i,rfl,rfl⟩ | ⟨z,rfl,rfl⟩ | ⟨a,rfl,rfl,ha⟩ <;> rcases hy with ⟨rfl,e⟩ | ⟨b',rfl,e⟩ | ⟨i',rfl,e⟩ | ⟨z',rfl,e⟩ | ⟨a',rfl,e,ha'⟩ <;> cases e
  · cases rx; cases ry; exact ⟨SeqAt.RcAt.none_none,SeqAt.RcNeAt.none_none⟩
  · cases rx; cases ry
    exact ⟨by have:=SeqAt.RcAt.bool_bool (A:=A) (s:=s) b b; simpa using this,by have:=SeqAt.RcNeAt.bool_bool (A:=A) (s:=s) b b; simpa using this⟩
  · obtain ⟨t1,rfl⟩:=rx
    obtain ⟨t2,rfl⟩:=ry
    exact ⟨by have:=SeqAt.RcAt.int_int (A:=A) (s:=s) i t1 i t2; simpa using this,by have:=SeqAt.RcNeAt.int_int (A:=A) (s:=s) i t1 i t2; simpa using this⟩
  · obtain ⟨t1,rfl⟩:=rx
    obtain ⟨t2,rfl⟩:=ry
    exact ⟨by have:=SeqAt.RcAt.str_str (A:=A) (s:=s) z t1 z t2; simpa using this,by have:=SeqAt.RcNeAt.str_str (A:=A) (s:=s) z t1 z t2; simpa using this⟩
  · cases rx; cases ry
    obtain ⟨n1,d1⟩:=Zol I ha
    obtain ⟨n2,d2⟩:=Zol I ha'
    refine ⟨λprog w E Q q=>?_,λprog w E Q q=>?_⟩
    · exact PySem.W.keq_eq (knd:=Zdh prog w) (r:=true) n1 n2 (ZeG d1) (ZeG d2) hu (λ_ => .nil) q
    · exact PySem.W.keq_ne (knd:=Zdh prog w) (r:=true) n1 n2 (ZeG d1) (ZeG d2) hu (λ_ => .nil) q
theorem Fl.at{A:Around}{x y:V}{v u:Value}{d:PyData}(I:Inv X pins σ H s)(hu:A.units<cLine)(hx:Fl H x d)(hy:Fl H y d)(rx:RelV x v)(ry:RelV y u):SeqAt.EqAt A s v u true:=by
  have rc:=(Fl.rc I hu hx hy rx ry).1
  rcases hx with ⟨rfl,rfl⟩ | ⟨b,rfl,rfl⟩ | ⟨i,rfl,rfl⟩ | ⟨z,rfl,rfl⟩ | ⟨a,rfl,rfl,ha⟩ <;> rcases hy with ⟨rfl,e⟩ | ⟨b',rfl,e⟩ | ⟨i',rfl,e⟩ | ⟨z',rfl,e⟩ | ⟨a',rfl,e,ha'⟩ <;> cases e
  · cases rx; cases ry; exact SeqAt.EqAt.same _
  · cases rx; cases ry; exact SeqAt.EqAt.same _
  · obtain ⟨t1,rfl⟩:=rx
    obtain ⟨t2,rfl⟩:=ry
    have:=SeqAt.EqAt.int_int (A:=A) (s:=s) i t1 i t2
    simpa using this
  · obtain ⟨t1,rfl⟩:=rx
    obtain ⟨t2,rfl⟩:=ry
    have:=SeqAt.EqAt.str_str (A:=A) (s:=s) z t1 z t2
    simpa using this
  · cases rx; cases ry
    by_cases hab:a=a'
    · subst hab; exact SeqAt.EqAt.same _
    · exact SeqAt.EqAt.of_refs hab rc
theorem Vals.at2{xs:List V}{its:List Value}(r:Vals xs its){j:Nat}(h:j<its.toArray.size):∃x,xs[j]?=some x/\RelV x its.toArray[j]:=by
  have l:=r.length
  have j1:j<xs.length:=by simp at h; omega
  obtain ⟨v1,e1,q1⟩:=r.get (i:=j) (x:=xs[j]) (by simp[j1])
  have f1:its.toArray[j]=v1:=by
    have:its[j]?=some its.toArray[j]:=by simp at h; simp[h]
    rw[this] at e1; exact Option.some.inj e1
  exact ⟨xs[j],by simp[j1],by rw[f1]; exact q1⟩
theorem Zax{α β:Type}{xs:List α}{ds:List β}{j:Nat}{x:α}(h:xs[j]?=some x)(l:xs.length=ds.length):∃d,ds[j]?=some d:=by
  have:=(Qk.mp h).1
  exact ⟨ds[j]'⋯,Q2 ⋯⟩
theorem Rp.both(I:Inv X pins σ H s):∀(n:Nat) (A:Around) (x y:V) (v u:Value) (d:PyData),A.units+n<cLine->Rp H n x d->Rp H n y d->RelV x v->RelV y u->SeqAt.EqAt A s v u true/\SeqAt.RcAt A s v u true/\SeqAt.RcNeAt A s v u false
  | 0,A,x,y,v,u,d,hu,hx,hy,rx,ry=>⟨Fl.at I hu hx hy rx ry,Fl.rc I hu hx hy rx ry⟩
  | n+1,A,x,y,v,u,d,hu,hx,hy,rx,ry=>by
    have hu0:A.units<cLine:=by omega
    rcases hx with hx | ⟨a,xs,ds,rfl,rfl,ha,hl,hi⟩ | ⟨a,xs,ds,rfl,rfl,ha,hl,hi⟩
    · have hy':Fl H y d:=by
        rcases hy with hy | ⟨b,ys,es,rfl,rfl,hb,hm,hj⟩ | ⟨b,ys,es,rfl,rfl,hb,hm,hj⟩
        · exact hy
        · rcases hx with ⟨_,e⟩ | ⟨_,_,e⟩ | ⟨_,_,e⟩ | ⟨_,_,e⟩ | ⟨_,_,e,_⟩ <;> cases e
        · rcases hx with ⟨_,e⟩ | ⟨_,_,e⟩ | ⟨_,_,e⟩ | ⟨_,_,e⟩ | ⟨_,_,e,_⟩ <;> cases e
      exact ⟨Fl.at I hu0 hx hy' rx ry,Fl.rc I hu0 hx hy' rx ry⟩
    · obtain ⟨b,ys,rfl,hb,hm,hj⟩:∃b ys,y = .ref b/\H b=some (.lst ys)/\ys.length=ds.length/\∀(i:Nat) u e,ys[i]?=some u->ds[i]?=some e->Rp H n u e:=by
        rcases hy with hy | ⟨b,ys,es,e1,e2,hb,hm,hj⟩ | ⟨b,ys,es,e1,e2,hb,hm,hj⟩
        · rcases hy with ⟨_,e⟩ | ⟨_,_,e⟩ | ⟨_,_,e⟩ | ⟨_,_,e⟩ | ⟨_,_,e,_⟩ <;> cases e
        · cases e2; exact ⟨b,ys,e1,hb,hm,hj⟩
        · cases e2
      cases rx
      cases ry
      obtain ⟨its,r1,p1,_⟩:=I.list (SqL.of ha)
      obtain ⟨jts,r2,p2,_⟩:=I.list (SqL.of hb)
      have l1:=r1.length
      have l2:=r2.length
      have el:∀(j:Nat) (h1:j<its.toArray.size) (h2:j<jts.toArray.size),SeqAt.EqAt A.in1 s its.toArray[j] jts.toArray[j] true:=λj h1 h2=>by
        obtain ⟨x1,g1,q1⟩:=r1.at2 h1
        obtain ⟨x2,g2,q2⟩:=r2.at2 h2
        obtain ⟨d,gd⟩:=Zax g1 hl
        exact (Rp.both I n A.in1 _ _ _ _ d (by show A.units+1+n<cLine; omega) (hi j _ _ g1 gd) (hj j _ _ g2 gd) q1 q2).1
      have rc:=SeqAt.RcAt.lists (A:=A) (e:=λ_=>true) p1.isList p2.isList (by simp; omega) hu0 el
      have rn:=SeqAt.RcNeAt.lists (A:=A) (e:=λ_=>true) p1.isList p2.isList (by simp; omega) hu0 el
      rw[Zb8] at rc rn
      refine ⟨?_,rc,rn⟩
      by_cases hab:a=b
      · subst hab; exact SeqAt.EqAt.same _
      · exact SeqAt.EqAt.of_refs hab rc
    · obtain ⟨b,ys,rfl,hb,hm,hj⟩:∃b ys,y = .ref b/\H b=some (.tup ys)/\ys.length=ds.length/\∀(i:Nat) u e,ys[i]?=some u->ds[i]?=some e->Rp H n u e:=by
        rcases hy with hy | ⟨b,ys,es,e1,e2,hb,hm,hj⟩ | ⟨b,ys,es,e1,e2,hb,hm,hj⟩
        · rcases hy with ⟨_,e⟩ | ⟨_,_,e⟩ | ⟨_,_,e⟩ | ⟨_,_,e⟩ | ⟨_,_,e,_⟩ <;> cases e
        · cases e2
        · cases e2; exact ⟨b,ys,e1,hb,hm,hj⟩
      cases rx
      cases ry
      obtain ⟨its,r1,p1,_⟩:=I.tuple (SqT.of ha)
      obtain ⟨jts,r2,p2,_⟩:=I.tuple (SqT.of hb)
      have l1:=r1.length
      have l2:=r2.length
      have el:∀(j:Nat) (h1:j<its.toArray.size) (h2:j<jts.toArray.size),SeqAt.EqAt A.in1 s its.toArray[j] jts.toArray[j] true:=λj h1 h2=>by
        obtain ⟨x1,g1,q1⟩:=r1.at2 h1
        obtain ⟨x2,g2,q2⟩:=r2.at2 h2
        obtain ⟨d,gd⟩:=Zax g1 hl
        exact (Rp.both I n A.in1 _ _ _ _ d (by show A.units+1+n<cLine; omega) (hi j _ _ g1 gd) (hj j _ _ g2 gd) q1 q2).1
      have es:(its.toArray.size==jts.toArray.size)=true:=by simp; omega
      have rc:=SeqAt.RcAt.tuples (A:=A) (e:=λ_=>true) p1 p2 hu0 el
      have rn:=SeqAt.RcNeAt.tuples (A:=A) (e:=λ_=>true) p1 p2 hu0 el
      rw[Zb8,es] at rc rn
      refine ⟨?_,rc,rn⟩
      by_cases hab:a=b
      · subst hab; exact SeqAt.EqAt.same _
      · exact SeqAt.EqAt.of_refs hab rc
end
section
variable{X:Cx}{k:Nat}
def Zqh:R2:=λx y H Q=>∃d,Rp H 8 x d/\Rp H 8 y d/\Q (.bl true) H
def Zqi:R2:=λx y H Q=>∃d,Rp H 8 x d/\Rp H 8 y d/\Q (.bl false) H
theorem Zom(hr:Room k X.A):OpR X (compareOp .Eq) Zqh:=by
  intro pins s σ H x y v u Q I rx ry h
  obtain ⟨d,hx,hy,q⟩:=h
  have hu:=hr.units
  exact (Rp.both I 8 X.A x y v u d ⋯ hx hy rx ry).2.1 _ _ _ _ ⟨.bl true,H,I,rfl,q⟩
theorem Zmm(hr:Room k X.A):OpR X (compareOp .NotEq) Zqi:=by
  intro pins s σ H x y v u Q I rx ry h
  obtain ⟨d,hx,hy,q⟩:=h
  have hu:=hr.units
  exact (Rp.both I 8 X.A x y v u d ⋯ hx hy rx ry).2.2 _ _ _ _ ⟨.bl false,H,I,rfl,q⟩
end
end L2
namespace L2
open PySem PySem.Spec PyProof.Rows
section
variable{X:Cx}{es:List Expr}{te:TE}{t:TA}{p:Pos}{k:Nat}
end
def All2(R:V->PyData->Prop)(xs:List V)(ds:List PyData):Prop:=xs.length=ds.length/\∀(i:Nat) v d,xs[i]?=some v->ds[i]?=some d->R v d
section
variable{R R':V->PyData->Prop}{xs ys:List V}{ds es:List PyData}{x:V}{d:PyData}
theorem All2.nil:All2 R [] []:=⟨rfl,λi v d h=>by simp at h⟩
theorem All2.cons(h:R x d)(t:All2 R xs ds):All2 R (x::xs) (d::ds):=by
  refine ⟨by simp[t.1],λi v e hv he=>?_⟩
  cases i with
  | zero=>cases hv; cases he; exact h
  | succ i=>exact t.2 i v e (by simpa using hv) (by simpa using he)
theorem Zhe{H:Hp}{n:Nat}{a:Addr}(h:H a=some (.lst xs))(g:All2 (Rp H n) xs ds):Rp H (n+1) (.ref a) (.list ds):=.inr (.inl ⟨a,xs,ds,rfl,rfl,h,g.1,g.2⟩)
theorem Zon{H:Hp}{n:Nat}{a:Addr}(h:H a=some (.tup xs))(g:All2 (Rp H n) xs ds):Rp H (n+1) (.ref a) (.tuple ds):=.inr (.inr ⟨a,xs,ds,rfl,rfl,h,g.1,g.2⟩)
end
end L2
namespace L2
open PySem PySem.Spec PyProof.Rows
theorem Bits.le{n:Nat}{i j:Int}(h:Bits n j)(l:i.natAbs<=j.natAbs):Bits n i:=Bits.of (Qs l h.lt)
theorem Bits.up{n m:Nat}{i:Int}(h:Bits n i)(l:n<=m):Bits m i:=Q0 h l
theorem Bits.mulT{i j:Int}(h:Bits 1000000 i)(h':Bits 1000000 j):IntMulOk i j:=Bits.mul (h.up ∅) (h'.up ∅)
theorem Bits.mulG{i j:Int}(h:Bits 1000000 i)(h':Bits 4000 j):IntMulOk i j:=h.mulT (h'.up ∅)
theorem Bits.times{n m:Nat}{i j:Int}(h:Bits n i)(h':Bits m j):Bits (n+m) (i*j):=Bits.of (by
  rw[Qt,U0]
  exact Nat.mul_lt_mul'' h.lt h'.lt)
theorem Bits.plus{n:Nat}{i j:Int}(h:Bits n i)(h':Bits n j):Bits (n+1) (i+j):=Bits.of (by
  have:=Int.natAbs_add_le i j
  have a:=h.lt
  have b:=h'.lt
  rw[Wc]
  omega)
theorem Bits.log{n:Nat}{i:Int}(h:Bits n i)(h0:i≠0):i.natAbs.log2<n:=by
  have:i.natAbs.log2+1<=n:=by unfold Bits Builtin.Int.intBits at h; simpa [h0] using h
  omega
section
variable{X:Cx}
theorem ZbP:OpR X (binaryOp .FloorDiv) (rI (λ_ j=>j≠0/\Bits 4000 j) λi j => .int (i.fdiv j)):=opI λ_ _ _ _ _ _ _ hc q=>floordiv_int hc.1 q (.inl (PyProof.noPylong_of_log2 (Nat.lt_trans (hc.2.log hc.1) ∅)))
end
end L2
namespace L2
open PySem PySem.Spec PyProof.Rows
def AllG{β:Type}(R:V->β->Prop)(xs:List V)(ds:List β):Prop:=xs.length=ds.length/\∀(i:Nat) v d,xs[i]?=some v->ds[i]?=some d->R v d
section
variable{β:Type}{R R':V->β->Prop}{xs ys:List V}{ds es:List β}{x:V}{d:β}
theorem AllG.nil:AllG R [] []:=⟨rfl,λi v d h=>by simp at h⟩
theorem AllG.cons(h:R x d)(t:AllG R xs ds):AllG R (x::xs) (d::ds):=by
  refine ⟨by simp[t.1],λi v e hv he=>?_⟩
  cases i with
  | zero=>cases hv; cases he; exact h
  | succ i=>exact t.2 i v e (by simpa using hv) (by simpa using he)
theorem AllG.mono(h:AllG R xs ds)(f:∀v d,R v d->R' v d):AllG R' xs ds:=⟨h.1,λi v d a b=>f v d (h.2 i v d a b)⟩
theorem AllG.append(h:AllG R xs ds)(g:AllG R ys es):AllG R (xs++ys) (ds++es):=by
  refine ⟨by rw[Qb,Qb,h.1,g.1],λi v e hv he=>?_⟩
  have l:=h.1
  by_cases hi:i<xs.length
  · rw[Wi hi] at hv
    rw[Wi ⋯] at he
    exact h.2 i v e hv he
  · rw[Ws ⋯] at hv he
    rw[<-l] at he
    exact g.2 _ v e hv he
theorem AllG.drop(h:AllG R xs ds)(n:Nat):AllG R (xs.drop n) (ds.drop n):=by
  refine ⟨by rw[Wj,Wj,h.1],λi v e hv he=>?_⟩
  rw[List.getElem?_drop] at hv he
  exact h.2 _ v e hv he
theorem AllG.set(h:AllG R xs ds)(n:Nat)(g:R x d):AllG R (xs.set n x) (ds.set n d):=by
  refine ⟨by rw[Qw,Qw,h.1],λi v e hv he=>?_⟩
  rw[U1] at hv he
  have l:=h.1
  split at hv
  · rename_i hi
    rw[if_pos hi] at he
    split at hv
    · rename_i hl
      rw[if_pos ⋯] at he
      cases hv; cases he; exact g
    · cases hv
  · rename_i hi
    rw[if_neg hi] at he
    exact h.2 i v e hv he
theorem AllG.one(h:R x d):AllG R [x] [d]:=.cons h .nil
theorem AllG.get(h:AllG R xs ds){i:Nat}(hv:xs[i]?=some x):∃d,ds[i]?=some d/\R x d:=by
  obtain ⟨d,e⟩:=Zax hv h.1
  exact ⟨d,e,h.2 i x d hv e⟩
theorem AllG.get'(h:AllG R xs ds){i:Nat}(hi:i<ds.length):∃x,xs[i]?=some x/\R x ds[i]:=by
  have l:=h.1
  exact ⟨xs[i]'⋯,Q2 ⋯,h.2 i _ _ (Q2 ⋯) (Q2 hi)⟩
theorem AllG.at(h:AllG R xs ds){i:Nat}{b:β}(hd:ds[i]?=some b):∃x,xs[i]?=some x/\R x b:=by
  have l:=h.1
  have hi:=(Qk.mp hd).1
  exact ⟨xs[i]'⋯,Q2 ⋯,h.2 i _ _ (Q2 ⋯) hd⟩
theorem AllG.all2{D:β->PyData}{R2:V->PyData->Prop}(h:AllG R xs ds)(f:∀v b,R v b->R2 v (D b)):All2 R2 xs (ds.map D):=by
  refine ⟨by rw[Q1]; exact h.1,λi v d hv hd=>?_⟩
  rw[Qa] at hd
  cases e:ds[i]? with
  | none=>rw[e] at hd; cases hd
  | some b=>rw[e] at hd; cases hd; exact f v b (h.2 i v b hv e)
theorem AllG.zip{α:Type}{R3:V->α->Prop}{as:List α}(h:AllG R xs ds)(g:AllG R3 ys as){i:Nat}{a b:V}(ha:xs[i]?=some a)(hb:ys[i]?=some b):∃p q,ds[i]?=some p/\as[i]?=some q/\R a p/\R3 b q:=by
  obtain ⟨p,hp,rp⟩:=h.get ha
  obtain ⟨q,hq,rq⟩:=g.get hb
  exact ⟨p,q,hp,hq,rp,rq⟩
end
end L2
namespace L2
open PySem PySem.Spec PyProof.Rows
section
variable{X:Cx}{k:Nat}
theorem Zmn{x y:V}{us:List Value}(r:Vals [x,y] us):∃u v,us=[u,v]/\RelV x u/\RelV y v:=by
  cases r with
  | cons r t=>cases t with
    | cons r2 t2=>cases t2; exact ⟨_,_,rfl,r,r2⟩
end
end L2
namespace L2
open PySem PySem.Spec PyProof.Rows
def Itv(K:PySem.W.Frag)(a:Addr)(n:Nat):It :=
  ⟨λi H=>i<n/\∃xs,SqL K H a xs/\xs.length=n,λi H x H'=>H'=H/\∀xs,SqL K H a xs->xs[n-1-i]?=some x,λi _=>i=n⟩
theorem ZlD{P:Program}{w:World}{K:PySem.W.Frag}{tg:Expr}(a it:Addr)(n:Nat):Turn P w K tg (Itv K a n) [it] it (λi h=>h.IsRevIter it a ((n:Int)-1-(i:Int))) where
  mem:=by simp
  obj:=λi h st b hb=>by
    have e:b=it:=by simpa using hb
    subst e
    obtain ⟨o,e,c,d⟩:=st
    exact ⟨o,e,λv z=>by rw[d] at z; cases z⟩
  keep:=λi h h' st k=>st.at λo e=>k it (by simp) o e
  item:=by
    intro X hP hw hK hc i pins s σ H E I hf st hg
    subst hP hw hK
    obtain ⟨hi,xs,hq,hn⟩:=hg
    obtain ⟨its,rv,p,hz⟩:=I.list hq
    have hx:xs[n-1-i]?=some (xs[n-1-i]'⋯):=Q2 ⋯
    obtain ⟨u,hu,ru⟩:=rv.get hx
    obtain ⟨f0,f1,f2,f3,f4,f5⟩:=hf it (by simp)
    have e1:(n:Int)-1-(i:Int)=((n-1-i:Nat):Int):=by omega
    rw[e1] at st
    refine wpAny_pyNext_rev_item st p.isList (x:=u) (by simpa using hu) λh' st' sb=>?_
    have e2:((n-1-i:Nat):Int)-1=(n:Int)-1-((i+1:Nat):Int):=by omega
    rw[e2] at st'
    have I1:Inv X pins σ H { s with heap:=h' }:=I.turned (t':=s.toks) (λb o hb e=>(sb.2 b hb).trans e) f0 f1 f3 f4 f5
    obtain ⟨o,e,c,d⟩:=id st'
    exact ⟨u,rfl,ZmN (s:={ s with heap:=h' }) e c d ∅ ⟨_,H,I1,ru,⟨rfl,λys hy=>by rw[I.list_inj hy hq]; exact hx⟩,st',λb hb=>(hf b hb).1⟩⟩
  done:=by
    intro X hP hw hK hc i pins s σ H E I hf st hg
    subst hP hw hK
    have hg:i=n:=hg
    subst hg
    obtain ⟨f0,f1,f2,f3,f4,f5⟩:=hf it (by simp)
    have e1:(i:Int)-1-(i:Int) = -1:=by omega
    rw[e1] at st
    exact wpAny_pyNext_rev_end (I.ok.hd hc) st λh' eb=>⟨rfl,I.turned (t':=s.toks) (λb o hb e=>eb b o hb e) f0 f1 f3 f4 f5⟩
  self:=λ_ _ _ _ _ st h=>wpAny_pyIter_revIter st h
section
variable{X:Cx}{tg:Expr}
def Zqj(K:PySem.W.Frag)(ta:TA):TI:=λσ H R=>ta σ H λvs H1=>∃a xs,vs=[.ref a]/\SqL K H1 a xs/\R (Itv K a xs.length) H1
theorem Zoo{e1:Expr}{ta:TA}{p pos:Pos}(hg:Gl X "reversed") (hm:X.mg "reversed" = none) (ha:PA X [e1] ta) (hs:starEach [e1] X.env=[(false,eval e1 X.env)]:=by rfl) :
    PI X tg (.Call (.Name "reversed" p) [e1] [] pos) (Zqj X.K ta):=by
  intro pins s σ H R I h
  refine wpAny_Call_Name_kw (ZdD I hg hm PyProof.Rows.Boot.«reversed» (PyProof.Rows.callWith_type1 (thn (ha pos pins s σ H _ I h) λus s1 ⟨vs,H1,I1,r1,q1⟩=>?_) (by rw[hs]; rfl) (by rfl)))
  obtain ⟨a,xs,e,hq,q⟩:=q1
  subst e
  obtain ⟨u,rfl,ru⟩:=ZgR r1
  cases (show u=Value.ref a from ru)
  obtain ⟨its,rv,pl,_⟩:=I1.list hq
  have hl:=rv.length
  refine call_reversed_list pl.isList ?_
  have hI:({ s1 with heap:=s1.heap.push (revObj a ((its.toArray.size:Int)-1)) }:Shared).heap.IsRevIter s1.heap.objs.size a ((xs.length:Int)-1-((0:Nat):Int)):=by
    refine ⟨_,Heap.get?_push_size _ rfl,rfl,?_⟩
    have:(its.toArray.size:Int)-1=(xs.length:Int)-1-((0:Nat):Int):=by rw[Qe]; omega
    rw[<-this]; rfl
  refine wpAny_pyIter_revIter hI ?_
  refine ⟨s1.heap.objs.size,[s1.heap.objs.size],_,_,H1,rfl,I1.kept (t':=s1.toks) λb o e=>Heap.get?_push_of_some _ e,ZlD a _ xs.length,hI,λb hb=>?_,q⟩
  have e:b=s1.heap.objs.size:=by simpa using hb
  subst e
  exact I1.fpOk (Q4 _) (I1.hok.fresh (Q4 _))
end
section
variable{X:Cx}{k:Nat}
end
end L2
namespace L2
open PySem PySem.Spec PyProof.Rows
section
variable{X:Cx}{tg iter elt:Expr}{scope:Scope}{pos:Pos}{wi:TI}{g:TG}{te:TE}{own:List Str}{caps:List (Nat×Str)}
end
end L2
namespace L2
open PySem PySem.Spec PyProof.Rows
def Znd(H:Hp)(x y:V)(b:Bool):Prop:=(∃i j:Int,x = .int i/\y = .int j/\b=decide (i=j)) ∨
  (∃(a c:Addr) (n1 d1 n2 d2:Int),x = .ref a/\y = .ref c/\H a=some (.tup [.int n1,.int d1])/\H c=some (.tup [.int n2,.int d2])/\b=(decide (n1=n2)&&decide (d1=d2)))
section
variable{X:Cx}{k:Nat}
def Zqk:R2:=λx y H Q=>∃b,Znd H x y b/\Q (.bl b) H
def Zql:R2:=λx y H Q=>∃b,Znd H x y b/\Q (.bl !b) H
theorem Zkf{pins:List (Addr×Obj)}{s:Shared}{σ:St}{H:Hp}{a c:Addr}{n1 d1 n2 d2:Int}{A:Around}(I:Inv X pins σ H s)(ha:H a=some (.tup [.int n1,.int d1]))(hc:H c=some (.tup [.int n2,.int d2]))(hu:A.units<cLine) :
    SeqAt.RcAt A s (.ref a) (.ref c) (decide (n1=n2)&&decide (d1=d2))/\SeqAt.RcNeAt A s (.ref a) (.ref c) (!(decide (n1=n2)&&decide (d1=d2))):=by
  obtain ⟨its,r1,p1,_⟩:=I.tuple (SqT.of ha)
  obtain ⟨u1,u2,rfl,ru1,ru2⟩:=Zmn r1
  obtain ⟨t1,rfl⟩:=ru1
  obtain ⟨t2,rfl⟩:=ru2
  obtain ⟨jts,r2,p2,_⟩:=I.tuple (SqT.of hc)
  obtain ⟨w1,w2,rfl,rw1,rw2⟩:=Zmn r2
  obtain ⟨s1,rfl⟩:=rw1
  obtain ⟨s2,rfl⟩:=rw2
  have el:∀(j:Nat) (h1:j<(#[Value.int n1 t1,Value.int d1 t2]:Array Value).size) (h2:j<(#[Value.int n2 s1,Value.int d2 s2]:Array Value).size),SeqAt.EqAt A.in1 s (#[Value.int n1 t1,Value.int d1 t2]:Array Value)[j] (#[Value.int n2 s1,Value.int d2 s2]:Array Value)[j] (if j=0 then n1==n2 else d1==d2):=λj h1 h2=>by
    have h1':j<2:=h1
    match j,h1' with
    | 0,_=>exact SeqAt.EqAt.int_int n1 t1 n2 s1
    | 1,_=>exact SeqAt.EqAt.int_int d1 t2 d2 s2
  have e:((List.range (min (#[Value.int n1 t1,Value.int d1 t2]).size (#[Value.int n2 s1,Value.int d2 s2]).size)).all (λj=>if j=0 then n1==n2 else d1==d2)&&(#[Value.int n1 t1,Value.int d1 t2]).size==(#[Value.int n2 s1,Value.int d2 s2]).size)=(decide (n1=n2)&&decide (d1=d2)):=by
    show ((n1==n2)&&((d1==d2)&&true)&&true)=_
    rw[Bool.and_true,Bool.and_true]
    rfl
  have rc:=SeqAt.RcAt.tuples (A:=A) (e:=λj=>if j=0 then n1==n2 else d1==d2) p1 p2 hu el
  have rn:=SeqAt.RcNeAt.tuples (A:=A) (e:=λj=>if j=0 then n1==n2 else d1==d2) p1 p2 hu el
  rw[e] at rc rn
  exact ⟨rc,rn⟩
theorem Zkg(hr:Room k X.A):OpR X (compareOp .Eq) Zqk:=by
  intro pins s σ H x y v u Q I rx ry h
  obtain ⟨b,hb,q⟩:=h
  rcases hb with ⟨i,j,rfl,rfl,rfl⟩ | ⟨a,c,n1,d1,n2,d2,rfl,rfl,ha,hc,rfl⟩
  · refine Za9 pins s σ H _ _ v u Q I rx ry ⟨rfl,?_⟩
    have:decide (V.int i=V.int j)=decide (i=j):=by rw[ZfZ]; rfl
    rw[this]; exact q
  · cases rx
    cases ry
    have hu:X.A.units<cLine:=by have:=hr.units; omega
    exact (Zkf I ha hc hu).1 _ _ _ _ ⟨.bl _,H,I,rfl,q⟩
theorem Zkh(hr:Room k X.A):OpR X (compareOp .NotEq) Zql:=by
  intro pins s σ H x y v u Q I rx ry h
  obtain ⟨b,hb,q⟩:=h
  rcases hb with ⟨i,j,rfl,rfl,rfl⟩ | ⟨a,c,n1,d1,n2,d2,rfl,rfl,ha,hc,rfl⟩
  · refine ZeB pins s σ H _ _ v u Q I rx ry ⟨rfl,?_⟩
    have:decide (V.int i=V.int j)=decide (i=j):=by rw[ZfZ]; rfl
    rw[this]; exact q
  · cases rx
    cases ry
    have hu:X.A.units<cLine:=by have:=hr.units; omega
    exact (Zkf I ha hc hu).2 _ _ _ _ ⟨.bl _,H,I,rfl,q⟩
end
end L2
namespace L2
open PySem PySem.Spec PyProof.Rows
section
variable{X:Cx}{tg iter elt cnd:Expr}{scope:Scope}{pos:Pos}{wi:TI}{g:TG}{tt:TT}{te:TE}{own:List Str}{caps:List (Nat×Str)}
end
end L2
namespace L2
open PySem PySem.Spec PyProof.Rows
end L2
namespace My
open PySem L2 PyProof.Rows
def top(i:Nat):Stmt:=PySem.Challenge.pw_turnframe_k48_rooms.main.body.getD i (.Pass ⟨0,0,0,0⟩)
abbrev ZdX:Stmt:=top 13
abbrev ZeZ:Stmt:=top 14
abbrev Zf4:Stmt:=top 15
abbrev ZcO:Stmt:=top 16
abbrev ZdY:Stmt:=top 17
abbrev Zbb:Stmt:=Za4 (top 19) 2
abbrev ZaM:Stmt:=Za4 (top 20) 0
abbrev ZbF:Stmt:=Za4 (top 20) 1
abbrev Zbv:Stmt:=Za4 (top 20) 2
abbrev Zbw:Stmt:=Za4 (top 20) 3
abbrev ZbG:Stmt:=Za4 (top 20) 4
abbrev ZaK:Stmt:=Za4 (top 20) 5
abbrev ZaN:Stmt:=Za4 (top 20) 6
abbrev Za5:Stmt:=Za4 (top 20) 8
abbrev ZbH:Stmt:=Za4 (top 21) 0
abbrev Zbd:Stmt:=Za4 (top 21) 1
abbrev ZcP:Stmt:=Za4 (top 21) 2
abbrev Zcr:Stmt:=Za4 (top 21) 3
abbrev Zcs:Stmt:=Za4 (top 21) 4
abbrev ZcQ:Stmt:=Za4 (top 21) 5
abbrev ZaT:Stmt:=Za4 (top 21) 6
abbrev Zbx:Stmt:=Za4 (top 21) 7
abbrev Zdm:Stmt:=top 23
abbrev Zct:Stmt:=top 24
abbrev Zdn:Stmt:=top 25
abbrev ZcR:Stmt:=top 26
abbrev Zf5:Stmt:=top 27
abbrev ZdZ:Stmt:=top 28
abbrev Zdo:Stmt:=top 29
abbrev ZhH:Stmt:=top 30
abbrev Zb9:Stmt:=top 31
abbrev ZbI:Stmt:=top 33
abbrev ZbJ:Stmt:=top 35
abbrev Zby:Stmt:=top 36
abbrev Zcu:Stmt:=top 38
abbrev ZhI:Stmt:=top 39
abbrev Ze0:Stmt:=top 40
abbrev Zdp:Stmt:=top 42
abbrev Ze1:Stmt:=top 44
abbrev Zki:Stmt:=top 45
abbrev Zca:Stmt:=top 46
abbrev Zcb:Stmt:=top 47
abbrev Zcc:Stmt:=top 48
abbrev Ze2:Stmt:=top 49
abbrev ZhJ:Stmt:=top 50
abbrev Zcv:Stmt:=top 52
abbrev Zkj:Stmt:=top 53
abbrev Ze3:Stmt:=top 55
abbrev Zdq:Stmt:=top 56
abbrev ZcS:Stmt:=top 57
abbrev Ze4:Stmt:=top 58
abbrev ZcT:Stmt:=top 59
abbrev Zf6:Stmt:=top 60
abbrev ZcU:Stmt:=top 61
abbrev Zf7:Stmt:=top 62
abbrev Zf8:Stmt:=top 63
abbrev Ze5:Stmt:=top 64
abbrev Ze6:Stmt:=top 65
abbrev Zcw:Stmt:=top 66
abbrev Ze7:Stmt:=top 67
abbrev Ze8:Stmt:=top 68
abbrev Zd0:Stmt:=top 69
abbrev Zd1:Stmt:=top 70
abbrev Ze9:Stmt:=top 71
abbrev Zd2:Stmt:=top 72
abbrev Zdr:Stmt:=top 73
abbrev Zds:Stmt:=top 74
abbrev Zf9:Stmt:=top 75
abbrev Zdt:Stmt:=top 76
abbrev Zfa:Stmt:=top 77
abbrev Zne:Stmt:=top 78
structure Nm (mg:Str->Option Value):Prop where
  abs:mg "abs" = none
  isinstance:mg "isinstance" = none
  int:mg "int" = none
  bool:mg "bool" = none
  tuple:mg "tuple" = none
  list:mg "list" = none
  len:mg "len" = none
  range:mg "range" = none
  PB:∃t,mg "PRIME_BOUND" = some (.int 1000000 t)
theorem nm_mk{mg:Str->Option Value}{v:Value}(h1:mg "PRIME_BOUND" = some v) (h2:∃t,v = .int 1000000 t) (a1:mg "abs" = none) (a2:mg "isinstance" = none) (a3:mg "int" = none) (a4:mg "bool" = none) (a5:mg "tuple" = none) (a6:mg "list" = none) (a7:mg "len" = none) (a8:mg "range" = none):Nm mg :=
  ⟨a1,a2,a3,a4,a5,a6,a7,a8,let ⟨t,e⟩:=h2; ⟨t,by rw[h1,e]⟩⟩
structure Kd (K:PySem.W.Frag) (mg:Str->Option Value) (CF CR:Addr):Prop where
  clF:Cls K CF
  clR:Cls K CR
  nP:NoAttr K CR "prime"
  mkF:Mk0 K CF
  mgF:mg "Fractions" = some (.ref CF)
  mgR:mg "Rests" = some (.ref CR)
def fsR(p:Int):List (Str×V):=ZgU "prime" (.int p) []
theorem ZbR(p:Int):(fsR p).lookup ("prime" : Str)=some (.int p):=by
  unfold fsR
  rw[Zcl,if_pos rfl]
theorem Zdg(p:Int){m:Str}(h:¬m = "prime"):(fsR p).lookup m=none:=by
  unfold fsR
  rw[Zcl,if_neg h]
  rfl
structure Fc (a b:Int):Prop where
  pos:0<b
  cop:Int.gcd a b=1
def FrA(CF:Addr)(H:Hp)(a:Addr):Prop:=∃dx,H a=some (.ins CF dx [])
theorem Zkk{b:Int}(h:0<b):0<b.natAbs:=Uk (Int.natAbs_ne_zero.mpr (Ua h))
inductive ZaP (vs:List V) (H:Hp) (Q:VK) (zE:XK):Prop
  | mk (a b:Int) (_:vs=[.int a,.int b]) (_:Q (.int (Int.gcd a b)) H):ZaP vs H Q zE
section
variable{P:Program}{w:World}{K:PySem.W.Frag}{mg:Str->Option Value}{base:Heap}
theorem sc_divisor:FnScope ["one", "other", "rest"] ["one", "other"] (Zah ZeZ):=‹2›
theorem Zi8(h:Here K mg "divisor" ZeZ) (T:Nm mg):Has P w K mg base "divisor" 1 ["one", "other"] ZaP:=by
  refine h.has (λf fd F=>F.binds λ_ _ _ _ _ _ us hl=>by obtain ⟨_,_,rfl⟩:=ZdJ hl; exact rfl) λf fd F=>F.ok sc_divisor (λvs H Q E h=>?_) (λcdv A outer s H vs Q E hr h=>?_)
  · obtain ⟨a,b,rfl,_⟩:=h
    rfl
  obtain ⟨x,y,rfl,k⟩:=h
  have nd:=sc_divisor.nd
  refine ⟨_,(Zab (ZbN PassesOwn.never (Zap ZeB (pv 1) Zad (Zas _)) (Zab (Zaj (i:=2) nd rfl (Or.inl rfl) (Zao Za1 (pv 0) (pv 1)))
      (Zab (Zaj (i:=0) nd rfl (Or.inl rfl) (pv 1))
      (Zae (Zaj (i:=1) nd rfl (Or.inl rfl) (pv 2))))))
    (Zae (Zal (Zak Ziq (by rfl) T.abs boot_abs (Zaa (pv 0) Zac))))),?_⟩
  refine ⟨λm σ H'=>∃(a b:Int) (r:Option V),m=b.natAbs/\σ=[some (.int a),some (.int b),r]/\H'=H/\Int.gcd a b=Int.gcd x y,⟨_,x,y,none,rfl,rfl,rfl,rfl⟩,?_⟩
  rintro m σ H' ⟨a,b,r,rfl,rfl,rfl,g⟩
  refine ⟨_,rfl,rfl,_,rfl,?_⟩
  refine ZcL (λhb=>⟨_,λ_ _ h=>h,?_⟩) (λhb=>?_)
  · refine ⟨_,rfl,_,rfl,_,_,rfl,rfl,hb,_,rfl,_,rfl,?_⟩
    exact ⟨_,M1.fmod_lt a hb,b,a.fmod b,_,rfl,rfl,rfl,by rw[M1.fmod_gcd]; exact g⟩
  · refine ⟨_,rfl,_,rfl,?_⟩
    subst hb
    rw[<-M1.gcd_zero' a,g]
    exact k
end
section
variable{P:Program}{w:World}{K:PySem.W.Frag}{mg:Str->Option Value}{base:Heap}
theorem sc_l_divisor:FnScope ["_law_one", "_law_other"] ["_law_one", "_law_other"] (Zah Zdq):=‹2›
theorem Zhf(h:Here K mg "_law_divisor" Zdq) (T:Nm mg):Has P w K mg base "_law_divisor" 1 ["_law_one", "_law_other"] ZaP:=by
  refine h.has (λf fd F=>F.binds λ_ _ _ _ _ _ us hl=>by obtain ⟨_,_,rfl⟩:=ZdJ hl; exact rfl) λf fd F=>F.ok sc_l_divisor (λvs H Q E h=>?_) (λcdv A outer s H vs Q E hr h=>?_)
  · obtain ⟨a,b,rfl,_⟩:=h
    rfl
  obtain ⟨x,y,rfl,k⟩:=h
  have nd:=sc_l_divisor.nd
  refine ⟨_,(Zab (ZbN PassesOwn.never (Zap ZeB (pv 1) Zad (Zas _)) (Zae (Zn5 (i:=0) (j:=1) rfl nd rfl rfl ∅ rfl rfl (Zaa (pv 1) (Zaa (Zao Za1 (pv 0) (pv 1)) Zac)) rfl)))
    (Zae (Zal (Zak Ziq (by rfl) T.abs boot_abs (Zaa (pv 0) Zac))))),?_⟩
  refine ⟨λm σ H'=>∃(a b:Int),m=b.natAbs/\σ=[some (.int a),some (.int b)]/\H'=H/\Int.gcd a b=Int.gcd x y,⟨_,x,y,rfl,rfl,rfl,rfl⟩,?_⟩
  rintro m σ H' ⟨a,b,rfl,rfl,rfl,g⟩
  refine ⟨_,rfl,rfl,_,rfl,?_⟩
  refine ZcL (λhb=>⟨_,λ_ _ h=>h,?_⟩) (λhb=>?_)
  · refine ⟨_,rfl,_,rfl,_,rfl,_,_,rfl,rfl,hb,_,_,rfl,?_⟩
    exact ⟨_,M1.fmod_lt a hb,b,a.fmod b,rfl,rfl,rfl,by rw[M1.fmod_gcd]; exact g⟩
  · refine ⟨_,rfl,_,rfl,?_⟩
    subst hb
    rw[<-M1.gcd_zero' a,g]
    exact k
end
inductive ZdK (vs:List V) (H:Hp) (Q:VK) (zE:XK):Prop
  | mk (i:Int) (_:vs=[.int i]) (_:Q (.bl true) H):ZdK vs H Q zE
section
variable{P:Program}{w:World}{K:PySem.W.Frag}{mg:Str->Option Value}{base:Heap}
theorem ZhK:FnScope ["thing"] ["thing"] (Zah ZdX):=‹2›
theorem ZhL(h:Here K mg "is_whole" ZdX) (T:Nm mg):Has P w K mg base "is_whole" 1 ["thing"] ZdK:=by
  refine h.has (λf fd F=>F.binds λ_ _ _ _ _ _ us hl=>by obtain ⟨_,rfl⟩:=Zlz hl; exact rfl) λf fd F=>F.ok ZhK (λvs H Q E h=>?_) (λcdv A outer s H vs Q E hr h=>?_)
  · obtain ⟨_,rfl,_⟩:=h
    rfl
  obtain ⟨i,rfl,k⟩:=h
  refine ⟨_,(Zae (Zal (ZfO (Zak Zcn (by rfl) T.isinstance boot_isinstance (Zaa (pv 0) (Zaa (Zg2 (by rfl) T.int boot_int) Zac))) (ZfN (Zme (Zak Zcn (by rfl) T.isinstance boot_isinstance (Zaa (pv 0) (Zaa (Zg2 (by rfl) T.bool boot_bool) Zac)))))))),?_⟩
  refine ⟨_,rfl,_,_,_,_,rfl,.int i,ZdG K _,_,rfl,?_⟩
  refine ZjY ?_
  exact ⟨_,rfl,_,_,_,_,rfl,.int i,Zeu K,_,rfl,k⟩
end
section
variable{P:Program}{w:World}{K:PySem.W.Frag}{mg:Str->Option Value}{base:Heap}
theorem Zi9:FnScope ["_law_found"] ["_law_found"] (Zah Ze3):=‹2›
theorem Zja(h:Here K mg "_law_whole" Ze3) (T:Nm mg):Has P w K mg base "_law_whole" 1 ["_law_found"] ZdK:=by
  refine h.has (λf fd F=>F.binds λ_ _ _ _ _ _ us hl=>by obtain ⟨_,rfl⟩:=Zlz hl; exact rfl) λf fd F=>F.ok Zi9 (λvs H Q E h=>?_) (λcdv A outer s H vs Q E hr h=>?_)
  · obtain ⟨_,rfl,_⟩:=h
    rfl
  obtain ⟨i,rfl,k⟩:=h
  refine ⟨_,(Zae (Zal (ZfO (Zak Zcn (by rfl) T.isinstance boot_isinstance (Zaa (pv 0) (Zaa (Zg2 (by rfl) T.int boot_int) Zac))) (ZfN (Zme (Zak Zcn (by rfl) T.isinstance boot_isinstance (Zaa (pv 0) (Zaa (Zg2 (by rfl) T.bool boot_bool) Zac)))))))),?_⟩
  refine ⟨_,rfl,_,_,_,_,rfl,.int i,ZdG K _,_,rfl,?_⟩
  refine ZjY ?_
  exact ⟨_,rfl,_,_,_,_,rfl,.int i,Zeu K,_,rfl,k⟩
end
inductive ZdL (vs:List V) (H:Hp) (Q:VK) (zE:XK):Prop
  | mk (n:Int) (_:vs=[.int n]) (_:n<1000000) (_:(M2.Prm n->Q (.bl true) H)) (_:(¬M2.Prm n->Q (.bl false) H)):ZdL vs H Q zE
section
variable{P:Program}{w:World}{K:PySem.W.Frag}{mg:Str->Option Value}{base:Heap}
theorem sc_is_prime:FnScope ["number", "trial"] ["number"] (Zah ZdY):=‹2›
theorem ZhM(h:Here K mg "is_prime" ZdY) (T:Nm mg):Has P w K mg base "is_prime" 1 ["number"] ZdL:=by
  refine h.has (λf fd F=>F.binds λ_ _ _ _ _ _ us hl=>by obtain ⟨_,rfl⟩:=Zlz hl; exact rfl) λf fd F=>F.ok sc_is_prime (λvs H Q E h=>?_) (λcdv A outer s H vs Q E hr h=>?_)
  · obtain ⟨_,rfl,_⟩:=h
    rfl
  obtain ⟨n,rfl,hn,kt,kf⟩:=h
  have nd:=sc_is_prime.nd
  obtain ⟨tk,hPB⟩:=T.PB
  refine ⟨_,(Zab (ZaB (Zdj (Zap ZdW (pv 0) Zad (Zas _)) (ZdE (Zap Zph (pv 0) (Zck (v:=.int 1000000) (by rfl) hPB ⟨tk,rfl⟩) (Zas _)))).pt (Zae (Zal Zcj)) Zat)
    (Zab (ZaB (Zap Za9 (Zao ZbX (pv 0) Zad) Zad (Zas _)) (Zae (Zal (Zbk Za9 (pv 0) Zad (Zas _)))) Zat)
    (Zab (Zaj (i:=1) nd rfl (Or.inl rfl) Zad)
    (Zab (ZbN PassesOwn.never (Zap Zlk (Zao ZaA (pv 1) (pv 1)) (pv 0) (Zas _)) (Zab (ZaB (Zap Za9 (Zao Za1 (pv 0) (pv 1)) Zad (Zas _)) (Zae (Zal Zcj)) Zat)
      (Zae (ZjG (i:=1) nd rfl (Or.inl rfl) Zad Zmg))))
    (Zae (Zal Zcj)))))),?_⟩
  refine ⟨_,rfl,_,_,rfl,rfl,_,rfl,?_⟩
  refine Zbq (λh=>ZjY (kf λp=>by have:=p.1; omega)) (λh2=>?_)
  refine ⟨_,rfl,_,_,rfl,rfl,_,rfl,?_⟩
  refine Zbq (λh=>absurd h ⋯) (λ_=>?_)
  refine ⟨_,rfl,_,_,rfl,rfl,(by show (0:Int)<_; decide),rfl,_,rfl,?_⟩
  refine Zbr (λe=>?_) (λe=>?_)
  · refine ⟨_,rfl,rfl,?_⟩
    rw[ZhB]
    have iff:=M2.prm_even (n:=n) ⋯ e
    by_cases hp:n=2
    · rw[decide_eq_true hp]; exact kt (iff.mpr hp)
    · rw[decide_eq_false hp]; exact kf λz=>hp (iff.mp z)
  refine ⟨λm σ H'=>∃t:Int,m=(n+2-t).toNat/\σ=[some (.int n),some (.int t)]/\H'=H/\3<=t/\t%2=1/\t<=n+2/\M2.No n t,⟨_,3,rfl,rfl,rfl,⋯,⋯,⋯,M2.No.odd e⟩,?_⟩
  rintro m σ H' ⟨t,rfl,rfl,rfl,h3,ho,hle,no⟩
  have tf:t.natAbs<=10^150:=Q0 (show t.natAbs<=1000002 by omega) ∅
  refine ⟨_,rfl,_,rfl,_,_,rfl,rfl,(Zba tf tf),_,rfl,_,_,rfl,rfl,_,rfl,?_⟩
  refine Zbq (λhl=>⟨_,λ_ _ h=>h,?_⟩) (λhl=>?_)
  · refine ⟨_,rfl,_,rfl,_,_,rfl,rfl,(show t≠0 by omega),rfl,_,rfl,?_⟩
    have lt:=M2.le_of_sq ⋯ hl
    refine Zbr (λz=>kf (M2.found ⋯ hl ((M2.fmod_dvd ⋯).mp z))) (λz=>?_)
    refine ⟨_,rfl,_,_,rfl,rfl,?_⟩
    exact ⟨_,⋯,t+2,rfl,rfl,rfl,⋯,⋯,⋯,no.next e ho λd=>z ((M2.fmod_dvd ⋯).mpr d)⟩
  · exact kt (no.done ⋯ ⋯ hl)
end
section
variable{P:Program}{w:World}{K:PySem.W.Frag}{mg:Str->Option Value}{base:Heap}
theorem sc_l_is_prime:FnScope ["_law_number", "_law_by"] ["_law_number"] (Zah ZcS):=‹2›
theorem Zga(h:Here K mg "_law_is_prime" ZcS):Has P w K mg base "_law_is_prime" 1 ["_law_number"] ZdL:=by
  refine h.has (λf fd F=>F.binds λ_ _ _ _ _ _ us hl=>by obtain ⟨_,rfl⟩:=Zlz hl; exact rfl) λf fd F=>F.ok sc_l_is_prime (λvs H Q E h=>?_) (λcdv A outer s H vs Q E hr h=>?_)
  · obtain ⟨_,rfl,_⟩:=h
    rfl
  obtain ⟨n,rfl,hn,kt,kf⟩:=h
  have nd:=sc_l_is_prime.nd
  refine ⟨_,(Zab (Zaj (i:=1) nd rfl (Or.inl rfl) Zad)
    (Zab (ZbN PassesOwn.never (Zap Zlk (Zao ZaA (pv 1) (pv 1)) (pv 0) (Zas _)) (Zab (ZaB (Zap Za9 (Zao Za1 (pv 0) (pv 1)) Zad (Zas _)) (Zae (Zal Zcj)) Zat)
      (Zae (Zaj (i:=1) nd rfl (Or.inl rfl) (Zao Za0 (pv 1) Zad)))))
    (Zae (Zal (Zbk ZiY (pv 0) Zad (Zas _)))))),?_⟩
  refine ⟨λm σ H'=>∃t:Int,m=(n+2-t).toNat/\σ=[some (.int n),some (.int t)]/\H'=H/\2<=t/\(t<=2\/t<=n)/\M2.No n t,⟨_,2,rfl,rfl,rfl,⋯,⋯,M2.No.two⟩,?_⟩
  rintro m σ H' ⟨t,rfl,rfl,rfl,h3,hle,no⟩
  have tf:t.natAbs<=10^150:=Q0 (show t.natAbs<=1000002 by omega) ∅
  refine ⟨_,rfl,_,rfl,_,_,rfl,rfl,(Zba tf tf),_,rfl,_,_,rfl,rfl,_,rfl,?_⟩
  refine Zbq (λhl=>⟨_,λ_ _ h=>h,?_⟩) (λhl=>?_)
  · refine ⟨_,rfl,_,rfl,_,_,rfl,rfl,(show t≠0 by omega),rfl,_,rfl,?_⟩
    have lt:=M2.le_of_sq ⋯ hl
    refine Zbr (λz=>kf (M2.found ⋯ hl ((M2.fmod_dvd ⋯).mp z))) (λz=>?_)
    refine ⟨_,rfl,_,_,rfl,rfl,?_⟩
    exact ⟨_,⋯,t+1,rfl,rfl,rfl,⋯,⋯,no.one λd=>z ((M2.fmod_dvd ⋯).mpr d)⟩
  · refine ⟨_,rfl,_,_,rfl,rfl,?_⟩
    show Q (V.bl (decide (1<n))) _
    by_cases h2:1<n
    · rw[decide_eq_true h2]; exact kt (no.done ⋯ ⋯ hl)
    · rw[decide_eq_false h2]; exact kf λp=>by have:=p.1; omega
end
inductive Zcx (K:PySem.W.Frag) (vs:List V) (H:Hp) (Q:VK) (zE:XK):Prop
  | mk (p r:Addr) (q a0 a1 a2 b0 b1 b2:Int) (_:vs=[.ref p,.int q,.ref r]) (_:SqT K H p [.int a0,.int a1,.int a2]) (_:SqT K H r [.int b0,.int b1,.int b2]) (_:IntMulOk q b0) (_:IntMulOk q b1) (_:IntMulOk q b2) (_:∀t,H t=none->Q (.ref t) (upd H t (.tup [.int (a0-q*b0),.int (a1-q*b1),.int (a2-q*b2)]))):Zcx K vs H Q zE
section
variable{P:Program}{w:World}{K:PySem.W.Frag}{mg:Str->Option Value}{base:Heap}
theorem Zgb:FnScope ["some", "factor", "others"] ["some", "factor", "others"] (Zah ZcO):=‹2›
theorem Zgc(h:Here K mg "less_times" ZcO):Has P w K mg base "less_times" 1 ["some", "factor", "others"] (Zcx K):=by
  refine h.has (λf fd F=>F.binds λ_ _ _ _ _ _ us hl=>by obtain ⟨_,_,_,rfl⟩:=Zew hl; exact rfl) λf fd F=>F.ok Zgb (λvs H Q E h=>?_) (λcdv A outer s H vs Q E hr h=>?_)
  · obtain ⟨_,_,_,_,_,_,_,_,_,rfl,_⟩:=h
    rfl
  obtain ⟨p,r,q,a0,a1,a2,b0,b1,b2,rfl,hp,hq,m0,m1,m2,k⟩:=h
  refine ⟨_,(Zae (Zal (Za2 (Zaa (Zao ZcK (Zam Zaq (pv 0) Zad (λ_ _=>rfl)) (Zao ZaA (pv 1) (Zam Zaq (pv 2) Zad (λ_ _=>rfl)))) (Zaa (Zao ZcK (Zam Zaq (pv 0) Zad (λ_ _=>rfl)) (Zao ZaA (pv 1) (Zam Zaq (pv 2) Zad (λ_ _=>rfl)))) (Zaa (Zao ZcK (Zam Zaq (pv 0) Zad (λ_ _=>rfl)) (Zao ZaA (pv 1) (Zam Zaq (pv 2) Zad (λ_ _=>rfl)))) Zac)))))),?_⟩
  refine ⟨_,rfl,_,_,_,_,rfl,rfl,hp,rfl,_,rfl,_,rfl,_,_,_,_,rfl,rfl,hq,rfl,_,_,rfl,rfl,m0,_,_,rfl,rfl,?_⟩
  refine ⟨_,rfl,_,_,_,_,rfl,rfl,hp,rfl,_,rfl,_,rfl,_,_,_,_,rfl,rfl,hq,rfl,_,_,rfl,rfl,m1,_,_,rfl,rfl,?_⟩
  refine ⟨_,rfl,_,_,_,_,rfl,rfl,hp,rfl,_,rfl,_,rfl,_,_,_,_,rfl,rfl,hq,rfl,_,_,rfl,rfl,m2,_,_,rfl,rfl,?_⟩
  exact ⟨(by show 3<=sizeLine; decide),k⟩
end
inductive ZcV (vs:List V) (H:Hp) (Q:VK) (zE:XK):Prop
  | mk (x y:Int) (_:vs=[.int x,.int y]) (_:x.natAbs<=10^100) (_:y.natAbs<=10^100) (_:∀(t:Addr) (H':Hp) (u v:Int),Same H H'->H' t=some (.tup [.int (Int.gcd x y),.int u,.int v])->(Int.gcd x y:Int)=x*u+y*v->u.natAbs<=10^101->v.natAbs<=10^101->Q (.ref t) H'):ZcV vs H Q zE
section
variable{P:Program}{w:World}{K:PySem.W.Frag}{mg:Str->Option Value}{base:Heap}
theorem sc_shares:FnScope ["one", "other", "upper", "lower", "following"] ["one", "other"] (Zah Zf4):=‹2›
theorem Zkl(h:Here K mg "shares" Zf4) (h_less_times:Has P w K mg base "less_times" 1 ["some", "factor", "others"] (Zcx K)):Has P w K mg base "shares" 2 ["one", "other"] ZcV:=by
  refine h.has (λf fd F=>F.binds λ_ _ _ _ _ _ us hl=>by obtain ⟨_,_,rfl⟩:=ZdJ hl; exact rfl) λf fd F=>F.ok sc_shares (λvs H Q E h=>?_) (λcdv A outer s H vs Q E hr h=>?_)
  · obtain ⟨_,_,rfl,_⟩:=h
    rfl
  obtain ⟨x,y,rfl,bx,bY,k⟩:=h
  have nd:=sc_shares.nd
  refine ⟨_,(Zab (Zaj (i:=2) nd rfl (Or.inl rfl) (Za2 (Zaa (pv 0) (Zaa Zad (Zaa Zad Zac)))))
    (Zab (Zaj (i:=3) nd rfl (Or.inl rfl) (Za2 (Zaa (pv 1) (Zaa Zad (Zaa Zad Zac)))))
    (Zab (ZbN PassesOwn.never (Zap ZeB (Zam Zaq (pv 3) Zad (λ_ _=>rfl)) Zad (Zas _)) (Zab (Zaj (i:=4) nd rfl (Or.inl rfl) (Zan h_less_times hr (by rfl) (Zaa (pv 2) (Zaa (Zao Zf1 (Zam Zaq (pv 2) Zad (λ_ _=>rfl)) (Zam Zaq (pv 3) Zad (λ_ _=>rfl))) (Zaa (pv 3) Zac)))))
      (Zab (Zaj (i:=2) nd rfl (Or.inl rfl) (pv 3))
      (Zae (Zaj (i:=3) nd rfl (Or.inl rfl) (pv 4))))))
    (Zab (ZaB (Zap ZdW (Zam Zaq (pv 2) Zad (λ_ _=>rfl)) Zad (Zas _)) (Zae (Zal (Zan h_less_times hr (by rfl) (Zaa (Za2 (Zaa Zad (Zaa Zad (Zaa Zad Zac)))) (Zaa Zad (Zaa (pv 2) Zac)))))) Zat)
    (Zae (Zal (pv 2))))))),?_⟩
  refine ⟨_,rfl,(by show 3<=sizeLine; decide),λp0 hp0=>?_⟩
  refine ⟨_,rfl,(by show 3<=sizeLine; decide),λp1 hp1=>?_⟩
  have S0:Same H (upd H p0 (.tup [.int x,.int 1,.int 0])):=Zag hp0 _
  have S1:=S0.trans (Zag hp1 (.tup [.int y,.int 0,.int 1]))
  refine ⟨λm σ H'=>∃(p r:Addr) (f:Option V) (a u1 v1 b u2 v2:Int),m=b.natAbs/\σ=[some (.int x),some (.int y),some (.ref p),some (.ref r),f]/\Same H H'/\H' p=some (.tup [.int a,.int u1,.int v1])/\H' r=some (.tup [.int b,.int u2,.int v2])/\M1.Sh x y a u1 v1 b u2 v2,
    ⟨_,p0,p1,none,x,1,0,y,0,1,rfl,rfl,S1,by rw[Zav (ZaD Zaf hp1)]; exact Zaf,Zaf,M1.Sh.start x y⟩,?_⟩
  rintro m σ H' ⟨p,r,f,a,u1,v1,b,u2,v2,rfl,rfl,S,hp,hr',I⟩
  have bd:=I.bound
  have lim:x.natAbs+2*y.natAbs+1+1<=10^150:=by omega
  have lim0:=Nat.le_of_succ_le lim
  refine ⟨_,rfl,_,_,_,_,rfl,rfl,SqT.of hr',rfl,rfl,_,rfl,?_⟩
  refine ZcL (λhb=>⟨_,λ_ _ h=>h,?_⟩) (λhb=>?_)
  · refine ⟨_,rfl,_,rfl,_,_,_,_,rfl,rfl,SqT.of hp,rfl,_,rfl,_,_,_,_,rfl,rfl,SqT.of hr',rfl,_,_,rfl,rfl,⟨hb,Q0 bd.2.2.2.1 lim0⟩,_,rfl,?_⟩
    have fd:=Q0 (M1.fdiv_small a hb) (Q0 (Nat.succ_le_succ bd.1) lim)
    refine ⟨p,r,a.fdiv b,a,u1,v1,b,u2,v2,rfl,SqT.of hp,SqT.of hr',Zba fd (Q0 bd.2.2.2.1 lim0),Zba fd (Q0 bd.2.2.2.2.1 lim0),Zba fd (Q0 bd.2.2.2.2.2 lim0),λt ht=>?_⟩
    refine ⟨_,rfl,_,rfl,?_⟩
    exact ⟨_,(by rw[M1.rest_eq]; exact M1.fmod_lt a hb),r,t,_,b,u2,v2,_,_,_,rfl,rfl,S.trans (Zag ht _),by rw[Zav (ZaD hr' ht)]; exact hr',Zaf,I.turn hb⟩
  · subst hb
    obtain ⟨g1,g2⟩:=I.done
    refine ⟨_,rfl,_,_,_,_,rfl,rfl,SqT.of hp,rfl,_,_,rfl,rfl,_,rfl,?_⟩
    refine Zbq (λhn=>?_) (λhn=>?_)
    · refine ⟨(by show 3<=sizeLine; decide),λz hz=>?_⟩
      refine ⟨_,rfl,?_⟩
      refine ⟨z,p,1,0,0,0,a,u1,v1,rfl,SqT.of Zaf,SqT.of (by rw[Zav (ZaD hp hz)]; exact hp),Zba ∅ (Q0 bd.1 lim0),Zba ∅ (Q0 bd.2.1 lim0),Zba ∅ (Q0 bd.2.2.1 lim0),λt ht=>?_⟩
      have ed:(0:Int)-1*a=Int.gcd x y:=by omega
      refine k t _ (0-1*u1) (0-1*v1) ((S.trans (Zag hz _)).trans (Zag ht _)) (by rw[Zaf,ed]) ?_ ⋯ ⋯
      rw[<-ed,g2,Uy,Uy,Uy,Int.mul_sub,Int.mul_sub]
      omega
    · refine ⟨_,rfl,?_⟩
      have ed:a=Int.gcd x y:=by omega
      refine k p H' u1 v1 S (by rw[<-ed]; exact hp) (by rw[<-ed]; exact g2) ⋯ ⋯
end
def ReA(CR:Addr)(p:Int)(H:Hp)(a:Addr):Prop:=∃dx,H a=some (.ins CR dx (fsR p))
inductive Zgd (CR:Addr) (vs:List V) (H:Hp) (Q:VK) (zE:XK):Prop
  | mk (x dx:Addr) (p:Int) (_:vs=[.ref x,.int p]) (_:H x=some (.ins CR dx [])) (_:M2.Prm p) (_:p<1000000) (_:Q .non (upd H x (.ins CR dx (fsR p)))):Zgd CR vs H Q zE
section
variable{P:Program}{w:World}{K:PySem.W.Frag}{mg:Str->Option Value}{base:Heap}
theorem Zd3:FnScope ["self", "prime"] ["self", "prime"] (Zah ZbH):=‹2›
theorem ZlE{CR:Addr}(h:HereI K CR "Rests.__init__" ZbH) (cl:Cls K CR) (nP:NoAttr K CR "prime") (h_is_whole:Has P w K mg base "is_whole" 1 ["thing"] ZdK) (h_is_prime:Has P w K mg base "is_prime" 1 ["number"] ZdL):HasI P w K mg base CR 2 ["self", "prime"] (Zgd CR):=by
  refine h.hasI (λf fd F=>F.binds λ_ _ _ _ _ _ us hl=>by obtain ⟨_,_,rfl⟩:=ZdJ hl; exact rfl) λf fd F=>F.ok Zd3 (λvs H Q E h=>?_) (λcdv A outer s H vs Q E hr h=>?_)
  · obtain ⟨_,_,_,rfl,_⟩:=h
    rfl
  obtain ⟨x,dx,p,rfl,hx,hp,lp,k⟩:=h
  refine ⟨_,(Zab (ZaB (Zdj (ZbD (ZaY (Zan h_is_whole hr (by rfl) (Zaa (pv 1) Zac)))) (ZdE (ZbD (ZaY (Zan h_is_prime hr (by rfl) (Zaa (pv 1) Zac)))))).pt (Zae Zlj) Zat)
    (Zae (Zoa (pv 0) (pv 1) rfl))),?_⟩
  refine ⟨_,rfl,p,rfl,_,rfl,?_⟩
  refine Zc7 ?_
  refine ⟨_,rfl,p,rfl,lp,λ_=>⟨_,rfl,?_⟩,λz=>absurd hp z⟩
  refine Zc7 ?_
  exact ⟨_,rfl,_,rfl,x,CR,dx,_,rfl,hx,cl,nP,(by show 0<1000; decide),k⟩
end
structure CN (K:PySem.W.Frag) (mg:Str->Option Value) (x:Str) (C:Addr):Prop where
  m:mg x=some (.ref C)
  c:PySem.W.isClsIn K C=true
  t:PySem.W.typeIn K (.ref C)=some (.type "type")
structure Rf (K:PySem.W.Frag) (mg:Str->Option Value) (CE cK cN cF cT cI cX cM cR:Addr):Prop where
  e:CN K mg "FrameError" CE
  eb:PySem.W.mroIn K CE (.type "BaseException")=some true
  k:CN K mg "NoKind" cK
  n:CN K mg "NoNumber" cN
  f:CN K mg "NoFit" cF
  t:CN K mg "NoTurn" cT
  i:CN K mg "NoInverse" cI
  x:CN K mg "NoText" cX
  m:CN K mg "NoName" cM
  r:CN K mg "NoRow" cR
  ve:mg "ValueError" = none
theorem Rf.cat{K:PySem.W.Frag}{mg:Str->Option Value}{CE cK cN cF cT cI cX cM cR:Addr}(R:Rf K mg CE cK cN cF cT cI cX cM cR):CatC K mg "FrameError" CE:=⟨R.e.m,R.e.t,R.eb,R.e.c⟩
def ZlF(K:PySem.W.Frag)(C:Addr):List Addr->Prop
  | []=>True
  | D::r=>(PySem.W.mroIn K C (.ref D)=some false/\C≠D)/\ZlF K C r
structure Rz (K:PySem.W.Frag) (mg:Str->Option Value) (x:Str) (CE C:Addr) (os:List Addr):Prop where
  c:ExcC K mg x C
  e:PySem.W.mroIn K C (.ref CE)=some true
  v:PySem.W.mroIn K C (.type "ValueError")=some true
  o:ZlF K C os
theorem CN.no{K:PySem.W.Frag}{mg:Str->Option Value}{x:Str}{C D:Addr}(n:CN K mg x D)(h:PySem.W.mroIn K C (.ref D)=some false/\C≠D):PySem.W.kitOne K (.ref C) (.ref D)=some false:=Zm9 n.c n.t h.1 h.2
def Zqm(m:Nat)(g:Nat->V):List V:=(List.range m).map g
theorem Zaw{rs:List Addr}{i:Nat}{x:V}(h:(rs.map V.ref)[i]?=some x):∃r,rs[i]?=some r/\x = .ref r:=by
  rw[Qa] at h
  cases e:rs[i]? with
  | none=>rw[e] at h; cases h
  | some r=>rw[e] at h; exact ⟨r,rfl,(Option.some.inj h).symm⟩
theorem Zbi{rs:List Addr}{i:Nat}{r:Addr}(h:rs[i]?=some r):atI (rs.map V.ref) (i:Int)=some (.ref r):=ZaF (by rw[Qa,h]; rfl)
def Rows(H:Hp)(rs:List Addr)(m:Nat)(g:Nat->Nat->V):Prop:=∀(i:Nat) (r:Addr),rs[i]?=some r->H r=some (.lst (Zqm m (g i)))
structure Tb (H:Hp) (t:Addr) (rs:List Addr) (m:Nat) (g:Nat->Nat->V):Prop where
  l:H t=some (.lst (rs.map V.ref))
  r:Rows H rs m g
structure New (H:Hp) (rs:List Addr):Prop where
  nd:rs.Nodup
  no:∀r∈rs,H r=none
theorem z0(i:Nat):(0:Int)+(i:Int)=(i:Int):=Qc _
theorem Zfb{l:List Addr}(h:l.Nodup){i j:Nat}{a:Addr}(hi:l[i]?=some a)(hj:l[j]?=some a):i=j:=by
  obtain ⟨l1,e1⟩:=Qk.mp hi
  obtain ⟨l2,e2⟩:=Qk.mp hj
  have p:=List.pairwise_iff_getElem.mp h
  rcases Nat.lt_trichotomy i j with c | c | c
  · exact absurd (e1.trans e2.symm) (p i j l1 l2 c)
  · exact c
  · exact absurd (e2.trans e1.symm) (p j i l2 l1 c)
theorem New.out{H:Hp}{rs:List Addr}{a:Addr}{o:HO}(h:New H rs)(q:H a=some o):a∉rs:=λm=>by rw[h.no a m] at q; cases q
theorem Zfc{n i:Nat}(h:i<n):ixN n ((i:Nat):Int)=some i:=by
  have:=ZaF (xs:=List.range n) (j:=i) (v:=i) (by simp[h])
  unfold atI at this
  rw[Wd] at this
  cases q:ixN n (i:Int) with
  | none=>rw[q] at this; cases this
  | some j =>
    rw[q] at this
    simp only[Option.bind_some] at this
    have h2:=(Qk.mp this).2
    simp at h2
    rw[h2]
def KdA(CF CR:Addr)(p:Int)(H:Hp)(k:Addr):Prop:=(p=0/\FrA CF H k)\/(M2.Prm p/\p<1000000/\ReA CR p H k)
def Ez(H:Hp)(p e:Int)(v:V):Prop:=(p=0/\∃t,v = .ref t/\H t=some (.tup [.int e,.int 1]))\/(0<p/\v = .int e)
theorem Zop{ns:List Int}{i:Nat}(h:i<ns.length):atI (ns.map V.int) (i:Int)=some (.int ns[i]):=ZaF (by rw[Qa,Q2 h] <;> rfl)
def PK(p:Int):Prop:=p=0\/(M2.Prm p/\p<1000000)
def Nu(H:Hp)(p:Int)(v:V):Prop:=(p=0/\∃t a b,v = .ref t/\H t=some (.tup [.int a,.int b])/\Fc a b/\a.natAbs<=10^60/\b.natAbs<=10^60)\/(0<p/\∃x,v = .int x/\0<=x/\x<p)
structure Ce (H:Hp) (c:Addr) (cs:List Int):Prop where
  l:H c=some (.lst (cs.map V.int))
  h1:1<=cs.length
  h2:cs.length<=66
  b:∀i∈cs,Bits 1048576 i
def Off(D:List Addr)(H H':Hp):Prop:=∀a o,a∉D->H a=some o->H' a=some o
theorem Off.same{D:List Addr}{H0 H H':Hp}(O:Off D H H')(S:Same H0 H)(n:∀r∈D,H0 r=none):Same H0 H':=λb o q=>O b o (λm=>by rw[n b m] at q; cases q) (S _ _ q)
def Zqn(H:Hp)(p:Int)(x y:V):Prop:=(0<p/\∃i,x = .int i/\y = .int i)\/(p=0/\∃s t a b,x = .ref s/\y = .ref t/\H s=some (.tup [.int a,.int b])/\H t=some (.tup [.int a,.int b]))
theorem Ez.eq{H:Hp}{p e:Int}{x y:V}(h:Ez H p e x)(h':Ez H p e y):Zqn H p x y:=by
  rcases h with ⟨z,t,e1,h1⟩ | ⟨z,e1⟩
  · rcases h' with ⟨_,t',e2,h2⟩ | ⟨z',_⟩
    · exact .inr ⟨z,t,t',_,_,e1,e2,h1,h2⟩
    · omega
  · rcases h' with ⟨z',_⟩ | ⟨_,e2⟩
    · omega
    · exact .inl ⟨z,_,e1,e2⟩
theorem Nu.kind{H:Hp}{p:Int}{x:V}(h:Nu H p x):(∃i,x = .int i)\/∃a,x = .ref a:=by
  rcases h with ⟨_,t,_,_,e,_⟩ | ⟨_,i,e,_⟩
  · exact .inr ⟨t,e⟩
  · exact .inl ⟨i,e⟩
end My
namespace My
open PySem L2 PyProof.Rows
class Fd (α:Type) extends Lean.Grind.CommRing α where
  inv:α->α
  mul_inv:∀a:α,a≠0->a*inv a=1
  zne:(0:α)≠1
instance:Fd Rat where
  inv:=Rat.inv
  mul_inv:=λa h=>Rat.mul_inv_cancel a h
  zne:=by decide
theorem bez:∀a b:Nat,∃u v:Int,a*u+b*v=(Nat.gcd a b:Int):=by
  intro a b
  induction a,b using Nat.gcd.induction with
  | H0 n=>exact ⟨0,1,by simp⟩
  | H1 m n hm ih =>
    obtain ⟨u,v,e⟩:=ih
    refine ⟨v-(n/m:Nat)*u,u,?_⟩
    rw[Nat.gcd_rec,<-e]
    have h:(n:Int)=m*(n/m:Nat)+(n%m:Nat):=by
      have:=Nat.div_add_mod n m
      exact_mod_cast this.symm
    rw[Int.mul_sub]
    conv=>lhs; rw[h]
    rw[Int.add_mul]
    generalize ((n/m:Nat):Int)=q
    generalize ((n%m:Nat):Int)=r
    have e1:(m:Int)*(q*u)=m*q*u:=by rw[Qr]
    omega
structure PrN (p:Nat):Prop where
  pr:M2.Prm (p:Int)
  lt:p<1000000
theorem PrN.two{p:Nat}(h:PrN p):2<=p:=by have:=h.pr.1; omega
theorem PrN.nz{p:Nat}(h:PrN p):NeZero p:=⟨by have:=h.two; omega⟩
theorem Zkm{p:Nat}(h:PrN p):letI:=h.nz; ∀a:Fin p,a≠0->∃b:Fin p,a*b=1:=by
  letI:=h.nz
  intro a ha
  have h2:=h.two
  have nd:¬(p:Int) ∣ (a.val:Int):=by
    rintro ⟨k,hk⟩
    have hv:a.val≠0:=λz=>ha (Fin.ext (by simpa using z))
    have hl:=a.isLt
    have hk0:0<k:=by
      rcases Int.lt_or_le 0 k with c | c
      · exact c
      · have:(p:Int)*k<=0:=Int.mul_nonpos_of_nonneg_of_nonpos ⋯ c
        omega
    have:(p:Int)*1<=p*k:=Int.mul_le_mul_of_nonneg_left ⋯ ⋯
    omega
  have g:=M2.prm_gcd h.pr nd
  obtain ⟨u,v,e⟩:=bez a.val p
  have g':Nat.gcd a.val p=1:=by
    have:Int.gcd (a.val:Int) (p:Int)=Nat.gcd a.val p:=rfl
    omega
  rw[g'] at e
  refine ⟨⟨(u%p).toNat,?_⟩,?_⟩
  · have:=Uz u (show 0<(p:Int) by omega)
    have:=Ul u (show (p:Int)≠0 by omega)
    omega
  · refine Fin.ext ?_
    rw[Fin.val_mul]
    have e0:=Ul u (show (p:Int)≠0 by omega)
    have e1:((a.val*(u%p).toNat%p:Nat):Int)=((1:Nat):Int):=by
      rw[Wm,We,Int.toNat_of_nonneg e0,Int.mul_emod,Int.emod_emod_of_dvd _ (Int.dvd_refl _),<-Int.mul_emod]
      have:(a.val:Int)*u=1-p*v:=by omega
      rw[this,Int.sub_emod,Int.mul_emod_right]
      simp
      exact Ub ⋯ ⋯
    have e2:a.val*(u%p).toNat%p=1:=by exact_mod_cast e1
    have e3:(1:Fin p).val=1:=by
      show 1%p=1
      exact Nat.mod_eq_of_lt h2
    rw[e3]
    exact e2
@[reducible] noncomputable def finFd {p:Nat} (h:PrN p):Fd (Fin p) :=
  letI:=h.nz
  { (inferInstance:Lean.Grind.CommRing (Fin p)) with
    inv:=λa=>if ha:a≠0 then Classical.choose (Zkm h a ha) else 0
    mul_inv:=λa ha=>by
      simp only[dif_pos ha]
      exact Classical.choose_spec (Zkm h a ha)
    zne:=λz=>by
      have:=congrArg Fin.val z
      have h2:=h.two
      have e3:(1:Fin p).val=1:=by
        show 1%p=1
        exact Nat.mod_eq_of_lt h2
      have e4:(0:Fin p).val=0:=by simp
      rw[e3,e4] at this
      cases this }
inductive KX where
  | q
  | r (p:Nat) (h:PrN p)
@[reducible] def KX.F:KX->Type
  | .q=>Rat
  | .r p _=>Fin p
noncomputable instance (κ:KX):Fd κ.F:=match κ with
  | .q=>inferInstanceAs (Fd Rat)
  | .r _ h=>finFd h
def KX.P:KX->Int
  | .q=>0
  | .r p _=>p
def KX.D:(κ:KX)->κ.F->PyData
  | .q,x => .tuple [.int x.num,.int x.den]
  | .r _ _,x => .int x.val
def NR(κ:KX)(H:Hp)(v:V)(x:κ.F):Prop:=match κ with
  | .q=>∃a,v = .ref a/\H a=some (.tup [.int x.num,.int x.den])
  | .r _ _=>v = .int x.val
theorem NR.same{κ:KX}{H H':Hp}{v:V}{x:κ.F}(h:NR κ H v x)(S:Same H H'):NR κ H' v x:=by
  cases κ with
  | q=>obtain ⟨a,e,h⟩:=h; exact ⟨a,e,S _ _ h⟩
  | r p hp=>exact h
theorem NR.off{κ:KX}{H H':Hp}{t:Addr}{ys:List V}{v:V}{x:κ.F}(h:NR κ H v x)(ht:H t=some (.lst ys))(O:Off [t] H H'):NR κ H' v x:=by
  cases κ with
  | q =>
    obtain ⟨a,e,h⟩:=h
    refine ⟨a,e,O _ _ (λm=>?_) h⟩
    rw[Q5.mp m,ht] at h
    cases h
  | r p hp=>exact h
theorem ZhN{H:Hp}{i:Int}:Fl H (.int i) (.int i):=.inr (.inr (.inl ⟨i,rfl,rfl⟩))
theorem NR.rp{κ:KX}{H:Hp}{v:V}{x:κ.F}(h:NR κ H v x):Rp H 1 v (κ.D x):=by
  cases κ with
  | q =>
    obtain ⟨a,rfl,h⟩:=h
    exact Zon h (.cons ZhN (.cons ZhN .nil))
  | r p hp =>
    have h:v = .int x.val:=h
    subst h
    exact .inl ZhN
def Bd(κ:KX)(n m:Nat)(x:κ.F):Prop:=match κ with
  | .q=>Bits n x.num/\Bits m (x.den:Int)
  | .r _ _=>True
theorem Zkn{n d N D:Int}(fc:Fc n d)(hD:0<D)(e:n*D=N*d):(Rat.divInt N D).num=n/\((Rat.divInt N D).den:Int)=d:=by
  have hd:=fc.pos
  have q0:∃q:Rat,q.num=n/\(q.den:Int)=d:=by
    refine ⟨⟨n,d.toNat,⋯,?_⟩,rfl,by show ((d.toNat:Nat):Int)=d; omega⟩
    have:=fc.cop
    rw[Nat.coprime_iff_gcd_eq_one]
    have e:Int.gcd n d=Nat.gcd n.natAbs d.natAbs:=rfl
    have e2:d.natAbs=d.toNat:=by omega
    rw[<-e2]
    omega
  obtain ⟨q,e1,e2⟩:=q0
  have:Rat.divInt N D=q:=by
    rw[<-Qv q,e1,e2,Qx ⋯ ⋯]
    exact e.symm
  rw[this]
  exact ⟨e1,e2⟩
theorem Za6(x:Rat):Fc x.num x.den:=⟨by have:=x.den_nz; omega,by
  have:=x.reduced
  rw[Nat.coprime_iff_gcd_eq_one] at this
  exact this⟩
theorem Zko{x y:Rat}{n d:Int}(fc:Fc n d)(e:n*((x.den:Int)*y.den)=(x.num*y.den+y.num*x.den)*d):(x+y).num=n/\((x+y).den:Int)=d:=by
  have hx:=(Za6 x).pos
  have hy:=(Za6 y).pos
  have:x+y=Rat.divInt (x.num*y.den+y.num*x.den) ((x.den:Int)*y.den):=by
    rw[<-Rat.divInt_add_divInt _ _ ⋯ ⋯,Qv,Qv]
  rw[this]
  exact Zkn fc (Qp hx hy) e
theorem ZhO{x y:Rat}{n d:Int}(fc:Fc n d)(e:n*((x.den:Int)*y.den)=(x.num*y.num)*d):(x*y).num=n/\((x*y).den:Int)=d:=by
  have hx:=(Za6 x).pos
  have hy:=(Za6 y).pos
  have:x*y=Rat.divInt (x.num*y.num) ((x.den:Int)*y.den):=by
    rw[<-Wo,Qv,Qv]
  rw[this]
  exact Zkn fc (Qp hx hy) e
end My
namespace My
open PySem L2 PyProof.Rows
inductive ZdM (K:PySem.W.Frag) (CF:Addr) (vs:List V) (H:Hp) (Q:VK) (zE:XK):Prop
  | mk (s p q:Addr) (a1 b1 a2 b2:Int) (_:vs=[.ref s,.ref p,.ref q]) (_:FrA CF H s) (_:SqT K H p [.int a1,.int b1]) (_:SqT K H q [.int a2,.int b2]) (_:Fc a1 b1) (_:Fc a2 b2) (_:Bits 1000000 a1) (_:Bits 4000 b1) (_:Bits 1000000 a2) (_:Bits 4000 b2) (_:∀(t:Addr) (H':Hp) (x y:Int),Same H H'->H' t=some (.tup [.int x,.int y])->H t=none->Fc x y->x*(b1*b2)=(a1*b2+a2*b1)*y->Q (.ref t) H'):ZdM K CF vs H Q zE
section
variable{P:Program}{w:World}{K:PySem.W.Frag}{mg:Str->Option Value}{base:Heap}
theorem sc_Fractions_plusG:FnScope ["self", "one", "other", "common", "ahead", "top", "left"] ["self", "one", "other"] (Zah ZbF):=‹2›
theorem Zkp{CF:Addr}(h:HereM K CF "plus" "Fractions.plus" ZbF) (h_divisor:Has P w K mg base "divisor" 1 ["one", "other"] ZaP):HasM P w K mg base CF "plus" 2 ["self", "one", "other"] [] (ZdM K CF):=by
  refine h.hasM (λf fd F=>F.binds λ_ _ _ _ _ _ us hl=>by obtain ⟨_,_,_,rfl⟩:=Zew hl; exact rfl) λf fd F=>F.ok sc_Fractions_plusG (λvs H Q E h=>?_) (λcdv A outer s H vs Q E hr h=>?_)
  · obtain ⟨_,_,_,_,_,_,_,rfl,_⟩:=h
    rfl
  obtain ⟨sf,p,q,a1,b1,a2,b2,rfl,_,hp,hq,f1,f2,la1,lb1,la2,lb2,k⟩:=h
  have nd:=sc_Fractions_plusG.nd
  refine ⟨_,(Zab (Zaj (i:=3) nd rfl (Or.inl rfl) (Zan h_divisor hr (by rfl) (Zaa (Zam Zaq (pv 1) Zad (λ_ _=>rfl)) (Zaa (Zam Zaq (pv 2) Zad (λ_ _=>rfl)) Zac))))
    (Zab (Zaj (i:=4) nd rfl (Or.inl rfl) (Zao ZbP (Zam Zaq (pv 1) Zad (λ_ _=>rfl)) (pv 3)))
    (Zab (Zaj (i:=5) nd rfl (Or.inl rfl) (Zao Za0 (Zao ZaA (Zam Zaq (pv 1) Zad (λ_ _=>rfl)) (Zao ZbP (Zam Zaq (pv 2) Zad (λ_ _=>rfl)) (pv 3))) (Zao ZaA (Zam Zaq (pv 2) Zad (λ_ _=>rfl)) (pv 4))))
    (Zab (Zaj (i:=6) nd rfl (Or.inl rfl) (Zan h_divisor hr (by rfl) (Zaa (pv 5) (Zaa (pv 3) Zac))))
    (Zae (Zal (Za2 (Zaa (Zao ZbP (pv 5) (pv 6)) (Zaa (Zao ZaA (pv 4) (Zao ZbP (Zam Zaq (pv 2) Zad (λ_ _=>rfl)) (pv 6))) Zac))))))))),?_⟩
  have hb1:=f1.pos
  have hb2:=f2.pos
  have hg:=M3.gcd_ne (a:=b1) (b:=b2) ⋯
  have gl:Int.gcd b1 b2<=b2.natAbs:=U2 ⋯ (U3.mpr (W4 b1 b2))
  have hg1:(Int.gcd b1 b2:Int)≠0/\Bits 4000 (Int.gcd b1 b2:Int):=⟨⋯,lb2.le (by rw[Qy]; exact gl)⟩
  have d1:=M3.fdiv_le (Wx b1 b2) hg1.1
  have d2:=M3.fdiv_le (W4 b1 b2) hg1.1
  refine ⟨_,rfl,_,_,_,_,rfl,rfl,hp,rfl,_,rfl,_,_,_,_,rfl,rfl,hq,rfl,b1,b2,rfl,?_⟩
  refine ⟨_,rfl,_,_,_,_,rfl,rfl,hp,rfl,_,rfl,_,_,rfl,rfl,hg1,?_⟩
  refine ⟨_,rfl,_,_,_,_,rfl,rfl,hp,rfl,_,rfl,_,_,_,_,rfl,rfl,hq,rfl,_,rfl,_,_,rfl,rfl,hg1,_,_,rfl,rfl,la1.mulG (lb2.le d2),_,rfl,_,_,_,_,rfl,rfl,hq,rfl,_,rfl,_,_,rfl,rfl,la2.mulG (lb1.le d1),_,_,rfl,rfl,?_⟩
  refine ⟨_,rfl,_,rfl,_,_,rfl,?_⟩
  obtain ⟨o1,o2,o3,o4⟩:=M3.plus_ok hb1 hb2 f1.cop f2.cop rfl
  have ll:Int.gcd (a1*b2.fdiv (Int.gcd b1 b2)+a2*b1.fdiv (Int.gcd b1 b2)) (Int.gcd b1 b2)<=Int.gcd b1 b2:=U2 ⋯ (Int.ofNat_dvd.mp (W4 (a1*b2.fdiv (Int.gcd b1 b2)+a2*b1.fdiv (Int.gcd b1 b2)) (Int.gcd b1 b2)))
  have hl1:(Int.gcd (a1*b2.fdiv (Int.gcd b1 b2)+a2*b1.fdiv (Int.gcd b1 b2)) (Int.gcd b1 b2):Int)≠0/\Bits 4000 (Int.gcd (a1*b2.fdiv (Int.gcd b1 b2)+a2*b1.fdiv (Int.gcd b1 b2)) (Int.gcd b1 b2):Int):=⟨by have:=M3.gcd_ne (a:=a1*b2.fdiv (Int.gcd b1 b2)+a2*b1.fdiv (Int.gcd b1 b2)) (b:=(Int.gcd b1 b2:Int)) ⋯; omega,lb2.le (by rw[Qy]; exact Q0 ll gl)⟩
  have d3:=M3.fdiv_le (Wx (a1*b2.fdiv (Int.gcd b1 b2)+a2*b1.fdiv (Int.gcd b1 b2)) (Int.gcd b1 b2)) hl1.1
  have d4:=M3.fdiv_le (Int.dvd_trans (W4 (a1*b2.fdiv (Int.gcd b1 b2)+a2*b1.fdiv (Int.gcd b1 b2)) (Int.gcd b1 b2)) (W4 b1 b2)) hl1.1
  refine ⟨_,rfl,_,rfl,_,_,rfl,rfl,hl1,_,rfl,_,rfl,_,_,_,_,rfl,rfl,hq,rfl,_,rfl,_,_,rfl,rfl,hl1,_,_,rfl,rfl,((lb1.le d1).up ∅).mulG (lb2.le d4),(by show 2<=sizeLine; decide),λt ht'=>?_⟩
  exact k t _ _ _ (Zag ht' _) Zaf ht' ⟨o2,o3⟩ o4
end
inductive Zd4 (K:PySem.W.Frag) (CF:Addr) (vs:List V) (H:Hp) (Q:VK) (zE:XK):Prop
  | mk (s p q:Addr) (a1 b1 a2 b2:Int) (_:vs=[.ref s,.ref p,.ref q]) (_:FrA CF H s) (_:SqT K H p [.int a1,.int b1]) (_:SqT K H q [.int a2,.int b2]) (_:Fc a1 b1) (_:Fc a2 b2) (_:Bits 1000000 a1) (_:Bits 4000 b1) (_:Bits 1000000 a2) (_:Bits 4000 b2) (_:∀(t:Addr) (H':Hp) (x y:Int),Same H H'->H' t=some (.tup [.int x,.int y])->H t=none->Fc x y->x*(b1*b2)=(a1*a2)*y->Q (.ref t) H'):Zd4 K CF vs H Q zE
section
variable{P:Program}{w:World}{K:PySem.W.Frag}{mg:Str->Option Value}{base:Heap}
theorem sc_Fractions_timesG:FnScope ["self", "one", "other", "falling", "rising", "top"] ["self", "one", "other"] (Zah Zbw):=‹2›
theorem Zjb{CF:Addr}(h:HereM K CF "times" "Fractions.times" Zbw) (h_divisor:Has P w K mg base "divisor" 1 ["one", "other"] ZaP):HasM P w K mg base CF "times" 2 ["self", "one", "other"] [] (Zd4 K CF):=by
  refine h.hasM (λf fd F=>F.binds λ_ _ _ _ _ _ us hl=>by obtain ⟨_,_,_,rfl⟩:=Zew hl; exact rfl) λf fd F=>F.ok sc_Fractions_timesG (λvs H Q E h=>?_) (λcdv A outer s H vs Q E hr h=>?_)
  · obtain ⟨_,_,_,_,_,_,_,rfl,_⟩:=h
    rfl
  obtain ⟨sf,p,q,a1,b1,a2,b2,rfl,_,hp,hq,f1,f2,la1,lb1,la2,lb2,k⟩:=h
  have nd:=sc_Fractions_timesG.nd
  refine ⟨_,(Zab (Zaj (i:=3) nd rfl (Or.inl rfl) (Zan h_divisor hr (by rfl) (Zaa (Zam Zaq (pv 1) Zad (λ_ _=>rfl)) (Zaa (Zam Zaq (pv 2) Zad (λ_ _=>rfl)) Zac))))
    (Zab (Zaj (i:=4) nd rfl (Or.inl rfl) (Zan h_divisor hr (by rfl) (Zaa (Zam Zaq (pv 2) Zad (λ_ _=>rfl)) (Zaa (Zam Zaq (pv 1) Zad (λ_ _=>rfl)) Zac))))
    (Zab (Zaj (i:=5) nd rfl (Or.inl rfl) (Zao ZaA (Zao ZbP (Zam Zaq (pv 1) Zad (λ_ _=>rfl)) (pv 3)) (Zao ZbP (Zam Zaq (pv 2) Zad (λ_ _=>rfl)) (pv 4))))
    (Zae (Zal (Za2 (Zaa (pv 5) (Zaa (Zao ZaA (Zao ZbP (Zam Zaq (pv 1) Zad (λ_ _=>rfl)) (pv 4)) (Zao ZbP (Zam Zaq (pv 2) Zad (λ_ _=>rfl)) (pv 3))) Zac)))))))),?_⟩
  have hb1:=f1.pos
  have hb2:=f2.pos
  have hf:=M3.gcd_ne (a:=a1) (b:=b2) ⋯
  have hg:=M3.gcd_ne (a:=a2) (b:=b1) ⋯
  have gf:Int.gcd a1 b2<=b2.natAbs:=U2 (Zkk hb2) (U3.mpr (W4 a1 b2))
  have gg:Int.gcd a2 b1<=b1.natAbs:=U2 (Zkk hb1) (U3.mpr (W4 a2 b1))
  have hf1:(Int.gcd a1 b2:Int)≠0/\Bits 4000 (Int.gcd a1 b2:Int):=⟨⋯,lb2.le (by rw[Qy]; exact gf)⟩
  have hg1:(Int.gcd a2 b1:Int)≠0/\Bits 4000 (Int.gcd a2 b1:Int):=⟨⋯,lb1.le (by rw[Qy]; exact gg)⟩
  have d1:=M3.fdiv_le (Wx a1 b2) hf1.1
  have d2:=M3.fdiv_le (W4 a1 b2) hf1.1
  have d3:=M3.fdiv_le (Wx a2 b1) hg1.1
  have d4:=M3.fdiv_le (W4 a2 b1) hg1.1
  refine ⟨_,rfl,_,_,_,_,rfl,rfl,hp,rfl,_,rfl,_,_,_,_,rfl,rfl,hq,rfl,a1,b2,rfl,?_⟩
  refine ⟨_,rfl,_,_,_,_,rfl,rfl,hq,rfl,_,rfl,_,_,_,_,rfl,rfl,hp,rfl,a2,b1,rfl,?_⟩
  refine ⟨_,rfl,_,_,_,_,rfl,rfl,hp,rfl,_,rfl,_,_,rfl,rfl,hf1,_,rfl,_,_,_,_,rfl,rfl,hq,rfl,_,rfl,_,_,rfl,rfl,hg1,_,_,rfl,rfl,(la1.le d1).mulT (la2.le d3),?_⟩
  refine ⟨_,rfl,_,rfl,_,_,_,_,rfl,rfl,hp,rfl,_,rfl,_,_,rfl,rfl,hg1,_,rfl,_,_,_,_,rfl,rfl,hq,rfl,_,rfl,_,_,rfl,rfl,hf1,_,_,rfl,rfl,((lb1.le d4).up ∅).mulG (lb2.le d2),(by show 2<=sizeLine; decide),λt ht'=>?_⟩
  obtain ⟨o2,o3,o4⟩:=M3.times_ok hb1 hb2 f1.cop f2.cop
  exact k t _ _ _ (Zag ht' _) Zaf ht' ⟨o2,o3⟩ o4
end
inductive Zfd (CR:Addr) (g:Int->Int->Int) (vs:List V) (H:Hp) (Q:VK) (zE:XK):Prop
  | mk (s:Addr) (p a b:Int) (_:vs=[.ref s,.int a,.int b]) (_:ReA CR p H s) (_:2<=p) (_:a.natAbs<=10^150) (_:b.natAbs<=10^150) (_:Q (.int (g a b%p)) H):Zfd CR g vs H Q zE
section
variable{P:Program}{w:World}{K:PySem.W.Frag}{mg:Str->Option Value}{base:Heap}
theorem Zge:FnScope ["self", "one", "other"] ["self", "one", "other"] (Zah ZcP):=‹2›
theorem ZlG{CR:Addr}(h:HereM K CR "plus" "Rests.plus" ZcP) (cl:Cls K CR) (nP:NoAttr K CR "prime"):HasM P w K mg base CR "plus" 1 ["self", "one", "other"] [] (Zfd CR λa b=>a+b):=by
  refine h.hasM (λf fd F=>F.binds λ_ _ _ _ _ _ us hl=>by obtain ⟨_,_,_,rfl⟩:=Zew hl; exact rfl) λf fd F=>F.ok Zge (λvs H Q E h=>?_) (λcdv A outer s H vs Q E hr h=>?_)
  · obtain ⟨_,_,_,_,rfl,_⟩:=h
    rfl
  obtain ⟨sr,p,a,b,rfl,⟨dx,hs⟩,h2,la,lb,k⟩:=h
  refine ⟨_,(Zae (Zal (Zao Za1 (Zao Za0 (pv 1) (pv 2)) (ZeS (pv 0) rfl)))),?_⟩
  refine ⟨_,rfl,_,rfl,_,_,rfl,rfl,_,rfl,sr,CR,dx,_,_,rfl,hs,cl,nP,ZbR p,_,_,rfl,rfl,(show p≠0 by omega),?_⟩
  show Q (V.int ((a+b).fmod p)) _
  rw[W5 _ ⋯]
  exact k
end
section
variable{P:Program}{w:World}{K:PySem.W.Frag}{mg:Str->Option Value}{base:Heap}
theorem Zfy:FnScope ["self", "one", "other"] ["self", "one", "other"] (Zah Zcs):=‹2›
theorem Zkq{CR:Addr}(h:HereM K CR "times" "Rests.times" Zcs) (cl:Cls K CR) (nP:NoAttr K CR "prime"):HasM P w K mg base CR "times" 1 ["self", "one", "other"] [] (Zfd CR λa b=>a*b):=by
  refine h.hasM (λf fd F=>F.binds λ_ _ _ _ _ _ us hl=>by obtain ⟨_,_,_,rfl⟩:=Zew hl; exact rfl) λf fd F=>F.ok Zfy (λvs H Q E h=>?_) (λcdv A outer s H vs Q E hr h=>?_)
  · obtain ⟨_,_,_,_,rfl,_⟩:=h
    rfl
  obtain ⟨sr,p,a,b,rfl,⟨dx,hs⟩,h2,la,lb,k⟩:=h
  refine ⟨_,(Zae (Zal (Zao Za1 (Zao ZaA (pv 1) (pv 2)) (ZeS (pv 0) rfl)))),?_⟩
  refine ⟨_,rfl,_,rfl,_,_,rfl,rfl,Zba la lb,_,rfl,sr,CR,dx,_,_,rfl,hs,cl,nP,ZbR p,_,_,rfl,rfl,(show p≠0 by omega),?_⟩
  show Q (V.int ((a*b).fmod p)) _
  rw[W5 _ ⋯]
  exact k
end
theorem Zpq{t b:Int}(hb:b≠0):∃c:Int,c=(if b<0 then -(Int.gcd t b:Int) else (Int.gcd t b:Int))/\c≠0/\c.natAbs<=b.natAbs/\Fc (t.fdiv c) (b.fdiv c)/\t.fdiv c*b=t*b.fdiv c/\(t.fdiv c).natAbs<=t.natAbs/\(b.fdiv c).natAbs<=b.natAbs:=by
  have hg:=M3.gcd_ne (a:=t) hb
  have gl:Int.gcd t b<=b.natAbs:=U2 ⋯ (U3.mpr (W4 t b))
  by_cases h:b<0
  · refine ⟨-(Int.gcd t b:Int),by rw[if_pos h],⋯,⋯,?_⟩
    have e1:t.fdiv (-(Int.gcd t b:Int))=(-t).fdiv (Int.gcd t b):=by rw[<-Int.neg_fdiv_neg,Int.neg_neg]
    have e2:b.fdiv (-(Int.gcd t b:Int))=(-b).fdiv (Int.gcd t b):=by rw[<-Int.neg_fdiv_neg,Int.neg_neg]
    have e3:Int.gcd t b=Int.gcd (-t) (-b):=by rw[Int.neg_gcd,Int.gcd_neg]
    obtain ⟨l1,l2,l3,l4,l5⟩:=M3.low (t:=-t) (b:=-b) ⋯
    rw[e1,e2,e3]
    refine ⟨⟨l2,l1⟩,?_,⋯,⋯⟩
    rw[Ww,Int.neg_mul] at l3
    exact Int.neg_inj.mp l3
  · refine ⟨(Int.gcd t b:Int),by rw[if_neg h],⋯,⋯,?_⟩
    obtain ⟨l1,l2,l3,l4,l5⟩:=M3.low (t:=t) (b:=b) ⋯
    exact ⟨⟨l2,l1⟩,l3,l4,l5⟩
inductive Zdc (cN:Addr) (vs:List V) (H:Hp) (Q:VK) (E:XK):Prop
  | mk (s:Addr) (t b:Int) (_:vs=[.ref s,.int t,.int b]) (_:b.natAbs<=10^150) (_:(b=0->E (.ref cN) none H)) (_:(b≠0->∀(r:Addr) (x y:Int),H r=none->Fc x y->x*b=t*y->x.natAbs<=t.natAbs->y.natAbs<=b.natAbs->Q (.ref r) (upd H r (.tup [.int x,.int y])))):Zdc cN vs H Q E
section
variable{P:Program}{w:World}{K:PySem.W.Frag}{mg:Str->Option Value}{base:Heap}
theorem sc_Fractions_number:FnScope ["self", "top", "bottom", "common"] ["self", "top", "bottom"] (Zah ZaM):=‹2›
theorem ZhP{cN:Addr}{f T:Addr}{fd:FuncData}{items:Array Value}(F:FunD K "number" "Fractions.number" ZaM f fd T items) (c:ExcC K mg "NoNumber" cN) (h_divisor:Has P w K mg base "divisor" 1 ["one", "other"] ZaP):FnOk P w K mg base (CXx P w) 2 f fd ["self", "top", "bottom"] (Zdc cN):=by
  refine F.okx sc_Fractions_number (λvs H Q E h=>?_) (λcdv A outer s H vs Q E hr h=>?_)
  · obtain ⟨_,_,_,rfl,_⟩:=h
    rfl
  obtain ⟨sf,t,b,rfl,lb,k0,k⟩:=h
  have nd:=sc_Fractions_number.nd
  refine ⟨_,(Zab (ZaB (Zap Za9 (pv 2) Zad (Zas _)) (Zae (Zcq c ZeX rfl (by rfl) (Zaa ZbC Zac))) Zat)
    (Zab (Zaj (i:=3) nd rfl (Or.inl rfl) (Zan h_divisor hr (by rfl) (Zaa (pv 1) (Zaa (pv 2) Zac))))
    (Zab (ZaB (Zap ZdW (pv 2) Zad (Zas _)) (Zae (Zaj (i:=3) nd rfl (Or.inl rfl) (ZgQ Zet (pv 3)))) Zat)
    (Zae (Zal (Za2 (Zaa (Zao Zf1 (pv 1) (pv 3)) (Zaa (Zao Zf1 (pv 2) (pv 3)) Zac)))))))),?_⟩
  refine ⟨_,rfl,rfl,_,rfl,?_⟩
  refine Zbr (λz=>⟨(by show 1<=1000; decide),k0 z⟩) (λhb=>?_)
  refine ⟨_,rfl,_,rfl,t,b,rfl,?_⟩
  obtain ⟨c,ec,c0,cl,fc,e,l1,l2⟩:=Zpq (t:=t) hb
  refine ⟨_,rfl,_,_,rfl,rfl,_,rfl,?_⟩
  refine Zbq (λhn=>?_) (λhn=>?_)
  · refine ⟨_,rfl,_,rfl,?_⟩
    have ec':c = -(Int.gcd t b:Int):=by rw[ec,if_pos hn]
    refine ⟨_,rfl,_,rfl,_,_,rfl,rfl,(by rw[<-ec']; exact ⟨c0,⋯⟩),_,rfl,_,rfl,_,_,rfl,rfl,(by rw[<-ec']; exact ⟨c0,⋯⟩),(by show 2<=sizeLine; decide),λr hr'=>?_⟩
    rw[<-ec']
    exact k hb r _ _ hr' fc e l1 l2
  · have ec':c=(Int.gcd t b:Int):=by rw[ec,if_neg hn]
    refine ⟨_,rfl,_,rfl,_,_,rfl,rfl,(by rw[<-ec']; exact ⟨c0,⋯⟩),_,rfl,_,rfl,_,_,rfl,rfl,(by rw[<-ec']; exact ⟨c0,⋯⟩),(by show 2<=sizeLine; decide),λr hr'=>?_⟩
    rw[<-ec']
    exact k hb r _ _ hr' fc e l1 l2
theorem ZhQ{CF cN:Addr}{tk:Tok}(h:HereD K CF "number" "Fractions.number" ZaM #[.int 1 tk]) (c:ExcC K mg "NoNumber" cN) (h_divisor:Has P w K mg base "divisor" 1 ["one", "other"] ZaP):HasMX P w K mg base CF "number" 2 ["self", "top", "bottom"] [.int 1] (Zdc cN) :=
  h.hasMX (ds:=[.int 1 tk]) (.cons ⟨_,rfl⟩ .nil) (λf fd T F=>F.binds λ_ _ _ _ _ _ us hl=>by obtain ⟨_,_,rfl⟩:=ZdJ (show us.length=2 by simpa using hl); exact ⟨_,rfl,rfl⟩) λf fd T F=>ZhP F c h_divisor
end
theorem Zpr{p t b u v r:Int}(hp:2<=p)(h:(1:Int)=b*u+p*v)(hr:r=t*u%p):0<=r/\r<p/\p ∣ r*b-t:=by
  subst hr
  refine ⟨Ul _ ⋯,Uz _ ⋯,?_⟩
  have e:=Int.emod_add_mul_ediv (t*u) p
  have e1:t*u%p=t*u-p*(t*u/p):=by omega
  refine ⟨-(t*v)-(t*u/p)*b,?_⟩
  rw[e1]
  have e2:t=t*b*u+t*p*v:=by
    have:=congrArg (t * ·) h
    simp only[U8,Int.mul_add] at this
    rw[Qr,Qr]; exact this
  generalize t*u/p=k at *
  rw[Int.sub_mul,Int.mul_sub,Ww,Qr p k b]
  have e3:t*u*b=t*b*u:=by rw[Qr,Qo u b,<-Qr]
  have e4:p*(t*v)=t*p*v:=by rw[<-Qr,Qo p t]
  omega
inductive Zbz (CR cN:Addr) (vs:List V) (H:Hp) (Q:VK) (E:XK):Prop
  | mk (s:Addr) (p t b:Int) (_:vs=[.ref s,.int t,.int b]) (_:ReA CR p H s) (_:M2.Prm p) (_:p<1000000) (_:t.natAbs<=10^140) (_:b.natAbs<=10^100) (_:(p ∣ b->E (.ref cN) none H)) (_:(¬p ∣ b->∀(H':Hp) (r:Int),Same H H'->0<=r->r<p->p ∣ r*b-t->Q (.int r) H')):Zbz CR cN vs H Q E
section
variable{P:Program}{w:World}{K:PySem.W.Frag}{mg:Str->Option Value}{base:Heap}
theorem Zfe:FnScope ["self", "top", "bottom"] ["self", "top", "bottom"] (Zah Zbd):=‹2›
theorem Zff{CR cN:Addr}{f T:Addr}{fd:FuncData}{items:Array Value}(F:FunD K "number" "Rests.number" Zbd f fd T items) (cl:Cls K CR) (nP:NoAttr K CR "prime") (c:ExcC K mg "NoNumber" cN) (h_shares:Has P w K mg base "shares" 2 ["one", "other"] ZcV):FnOk P w K mg base (CXx P w) 3 f fd ["self", "top", "bottom"] (Zbz CR cN):=by
  refine F.okx Zfe (λvs H Q E h=>?_) (λcdv A outer s H vs Q E hr h=>?_)
  · obtain ⟨_,_,_,_,rfl,_⟩:=h
    rfl
  obtain ⟨sr,p,t,b,rfl,⟨dx,hs⟩,pr,lp,lt,lb,k0,k⟩:=h
  have h2:=pr.1
  refine ⟨_,(Zab (ZaB (Zap Za9 (Zao Za1 (pv 2) (ZeS (pv 0) rfl)) Zad (Zas _)) (Zae (Zcq c ZeX rfl (by rfl) (Zaa ZbC Zac))) Zat)
    (Zae (Zal (Zao Za1 (Zao ZaA (pv 1) (Zam Zaq (Zan h_shares hr (by rfl) (Zaa (pv 2) (Zaa (ZeS (pv 0) rfl) Zac))) Zad (λ_ _=>rfl))) (ZeS (pv 0) rfl))))),?_⟩
  refine ⟨_,rfl,_,rfl,sr,CR,dx,_,_,rfl,hs,cl,nP,ZbR p,_,_,rfl,rfl,(show p≠0 by omega),rfl,_,rfl,?_⟩
  refine Zbr (λz=>⟨(by show 1<=1000; decide),k0 ((M2.fmod_dvd ⋯).mp z)⟩) (λhb=>?_)
  have hb':¬p ∣ b:=λz=>hb ((M2.fmod_dvd ⋯).mpr z)
  have g1:=M2.prm_gcd pr hb'
  refine ⟨_,rfl,_,rfl,_,rfl,sr,CR,dx,_,_,rfl,hs,cl,nP,ZbR p,b,p,rfl,lb,⋯,λq H1 u v S hq e bu bv=>?_⟩
  refine ⟨_,_,_,_,rfl,rfl,SqT.of hq,rfl,_,_,rfl,rfl,Zba ⋯ ⋯,_,rfl,sr,CR,dx,_,_,rfl,S _ _ hs,cl,nP,ZbR p,_,_,rfl,rfl,(show p≠0 by omega),?_⟩
  rw[g1] at e
  obtain ⟨r0,r1,r2⟩:=Zpr (p:=p) (t:=t) (b:=b) (r:=t*u%p) h2 e rfl
  show Q (V.int ((t*u).fmod p)) _
  rw[W5 _ ⋯]
  exact k hb' H1 _ S r0 r1 r2
theorem Zjc{CR cN:Addr}{tk:Tok}(h:HereD K CR "number" "Rests.number" Zbd #[.int 1 tk]) (cl:Cls K CR) (nP:NoAttr K CR "prime") (c:ExcC K mg "NoNumber" cN) (h_shares:Has P w K mg base "shares" 2 ["one", "other"] ZcV):HasMX P w K mg base CR "number" 3 ["self", "top", "bottom"] [] (Zbz CR cN) :=
  h.hasMX (ds:=[]) .nil (λf fd T F=>F.binds λ_ _ _ _ _ _ us hl=>by obtain ⟨_,_,_,rfl⟩:=Zew (show us.length=3 by simpa using hl); exact ⟨_,rfl,rfl⟩) λf fd T F=>Zff F cl nP c h_shares
theorem ZhR{CR cN:Addr}{tk:Tok}(h:HereD K CR "number" "Rests.number" Zbd #[.int 1 tk]) (cl:Cls K CR) (nP:NoAttr K CR "prime") (c:ExcC K mg "NoNumber" cN) (h_shares:Has P w K mg base "shares" 2 ["one", "other"] ZcV):HasMX P w K mg base CR "number" 3 ["self", "top", "bottom"] [.int 1] (Zbz CR cN) :=
  h.hasMX (ds:=[.int 1 tk]) (.cons ⟨_,rfl⟩ .nil) (λf fd T F=>F.binds λ_ _ _ _ _ _ us hl=>by obtain ⟨_,_,rfl⟩:=ZdJ (show us.length=2 by simpa using hl); exact ⟨_,rfl,rfl⟩) λf fd T F=>Zff F cl nP c h_shares
end
inductive Zd5 (K:PySem.W.Frag) (CF:Addr) (vs:List V) (H:Hp) (Q:VK) (zE:XK):Prop
  | mk (s p q:Addr) (a1 b1 a2 b2:Int) (_:vs=[.ref s,.ref p,.ref q]) (_:FrA CF H s) (_:SqT K H p [.int a1,.int b1]) (_:SqT K H q [.int a2,.int b2]) (_:Fc a1 b1) (_:Fc a2 b2) (_:Bits 1000000 a1) (_:Bits 4000 b1) (_:Bits 1000000 a2) (_:Bits 4000 b2) (_:∀(t:Addr) (H':Hp) (x y:Int),Same H H'->H' t=some (.tup [.int x,.int y])->H t=none->Fc x y->x*(b1*b2)=(a1*b2+(-a2)*b1)*y->Q (.ref t) H'):Zd5 K CF vs H Q zE
section
variable{P:Program}{w:World}{K:PySem.W.Frag}{mg:Str->Option Value}{base:Heap}
theorem Zdu:FnScope ["self", "one", "other"] ["self", "one", "other"] (Zah Zbv):=‹2›
theorem Zjd{CF:Addr}(h:HereM K CF "minus" "Fractions.minus" Zbv) (cl:Cls K CF) (hM:HasM P w K mg base CF "plus" 2 ["self", "one", "other"] [] (ZdM K CF)):HasM P w K mg base CF "minus" 3 ["self", "one", "other"] [] (Zd5 K CF):=by
  refine h.hasM (λf fd F=>F.binds λ_ _ _ _ _ _ us hl=>by obtain ⟨_,_,_,rfl⟩:=Zew hl; exact rfl) λf fd F=>F.ok Zdu (λvs H Q E h=>?_) (λcdv A outer s H vs Q E hr h=>?_)
  · obtain ⟨_,_,_,_,_,_,_,rfl,_⟩:=h
    rfl
  obtain ⟨sf,p,q,a1,b1,a2,b2,rfl,⟨dx,hs⟩,hp,hq,f1,f2,la1,lb1,la2,lb2,k⟩:=h
  refine ⟨_,(Zae (Zal (ZaZ (pv 0) hr (Zaa (pv 1) (Zaa (Za2 (Zaa (ZgQ Zet (Zam Zaq (pv 2) Zad (λ_ _=>rfl))) (Zaa (Zam Zaq (pv 2) Zad (λ_ _=>rfl)) Zac))) Zac))))),?_⟩
  refine ⟨_,rfl,_,_,_,_,_,_,_,rfl,hs,cl,hM,rfl,_,rfl,_,rfl,_,_,_,_,rfl,rfl,hq,rfl,_,rfl,_,rfl,_,_,_,_,rfl,rfl,hq,rfl,(by show 2<=sizeLine; decide),λr hr'=>?_⟩
  have S:=Zag hr' (.tup [.int (-a2),.int b2])
  refine ⟨sf,p,r,a1,b1,-a2,b2,rfl,⟨dx,S _ _ hs⟩,S.tup hp,SqT.of Zaf,f1,⟨f2.pos,by rw[Int.neg_gcd]; exact f2.cop⟩,la1,lb1,la2.le ⋯,lb2,λt H' x y S' ht hn fc e=>?_⟩
  exact k t H' x y (S.trans S') ht (by
    cases z:H t with
    | none=>rfl
    | some o=>rw[S t o z] at hn; cases hn) fc e
end
section
variable{P:Program}{w:World}{K:PySem.W.Frag}{mg:Str->Option Value}{base:Heap}
theorem Zfz:FnScope ["self", "one", "other"] ["self", "one", "other"] (Zah Zcr):=‹2›
theorem Zkr{CR:Addr}(h:HereM K CR "minus" "Rests.minus" Zcr) (cl:Cls K CR) (nP:NoAttr K CR "prime"):HasM P w K mg base CR "minus" 1 ["self", "one", "other"] [] (Zfd CR λa b=>a-b):=by
  refine h.hasM (λf fd F=>F.binds λ_ _ _ _ _ _ us hl=>by obtain ⟨_,_,_,rfl⟩:=Zew hl; exact rfl) λf fd F=>F.ok Zfz (λvs H Q E h=>?_) (λcdv A outer s H vs Q E hr h=>?_)
  · obtain ⟨_,_,_,_,rfl,_⟩:=h
    rfl
  obtain ⟨sr,p,a,b,rfl,⟨dx,hs⟩,h2,la,lb,k⟩:=h
  refine ⟨_,(Zae (Zal (Zao Za1 (Zao ZcK (pv 1) (pv 2)) (ZeS (pv 0) rfl)))),?_⟩
  refine ⟨_,rfl,_,rfl,_,_,rfl,rfl,_,rfl,sr,CR,dx,_,_,rfl,hs,cl,nP,ZbR p,_,_,rfl,rfl,(show p≠0 by omega),?_⟩
  show Q (V.int ((a-b).fmod p)) _
  rw[W5 _ ⋯]
  exact k
end
inductive Zgf (K:PySem.W.Frag) (cN:Addr) (vs:List V) (H:Hp) (Q:VK) (E:XK):Prop
  | mk (s p:Addr) (a b:Int) (_:vs=[.ref s,.ref p]) (_:SqT K H p [.int a,.int b]) (_:Fc a b) (_:(a=0->E (.ref cN) none H)) (_:(a≠0->∀(r:Addr) (x y:Int),H r=none->Fc x y->x*a=b*y->x.natAbs=b.natAbs->y.natAbs=a.natAbs->Q (.ref r) (upd H r (.tup [.int x,.int y])))):Zgf K cN vs H Q E
section
variable{P:Program}{w:World}{K:PySem.W.Frag}{mg:Str->Option Value}{base:Heap}
theorem Zd6:FnScope ["self", "one"] ["self", "one"] (Zah ZbG):=‹2›
theorem ZlH{CF cN:Addr}(h:HereM K CF "back" "Fractions.back" ZbG) (c_NoNumber:ExcC K mg "NoNumber" cN):HasMX P w K mg base CF "back" 1 ["self", "one"] [] (Zgf K cN):=by
  refine h.hasMX (λf fd F=>F.binds λ_ _ _ _ _ _ us hl=>by obtain ⟨_,_,rfl⟩:=ZdJ hl; exact rfl) λf fd F=>F.okx Zd6 (λvs H Q E h=>?_) (λcdv A outer s H vs Q E hr h=>?_)
  · obtain ⟨_,_,_,_,rfl,_⟩:=h
    rfl
  obtain ⟨sf,p,a,b,rfl,hp,fc,k0,k⟩:=h
  have hb:=fc.pos
  refine ⟨_,(Zab (ZaB (Zap Za9 (Zam Zaq (pv 1) Zad (λ_ _=>rfl)) Zad (Zas _)) (Zae (Zcq c_NoNumber ZeX rfl (by rfl) (Zaa ZbC Zac))) Zat)
    (Zab (ZaB (Zap ZdW (Zam Zaq (pv 1) Zad (λ_ _=>rfl)) Zad (Zas _)) (Zae (Zal (Za2 (Zaa (ZgQ Zet (Zam Zaq (pv 1) Zad (λ_ _=>rfl))) (Zaa (ZgQ Zet (Zam Zaq (pv 1) Zad (λ_ _=>rfl))) Zac))))) Zat)
    (Zae (Zal (Za2 (Zaa (Zam Zaq (pv 1) Zad (λ_ _=>rfl)) (Zaa (Zam Zaq (pv 1) Zad (λ_ _=>rfl)) Zac))))))),?_⟩
  refine ⟨_,rfl,_,_,_,_,rfl,rfl,hp,rfl,rfl,_,rfl,?_⟩
  refine Zbr (λz=>⟨(by show 1<=1000; decide),k0 z⟩) (λha=>?_)
  refine ⟨_,rfl,_,_,_,_,rfl,rfl,hp,rfl,_,_,rfl,rfl,_,rfl,?_⟩
  refine Zbq (λhn=>?_) (λhn=>?_)
  · refine ⟨_,rfl,_,_,_,_,rfl,rfl,hp,rfl,_,rfl,_,rfl,_,_,_,_,rfl,rfl,hp,rfl,_,rfl,(by show 2<=sizeLine; decide),λr hr'=>?_⟩
    refine k ha r (-b) (-a) hr' ⟨⋯,?_⟩ (by rw[Int.neg_mul,Ww]) ⋯ ⋯
    rw[Int.neg_gcd,Int.gcd_neg,Uu]; exact fc.cop
  · refine ⟨_,rfl,_,_,_,_,rfl,rfl,hp,rfl,_,rfl,_,_,_,_,rfl,rfl,hp,rfl,(by show 2<=sizeLine; decide),λr hr'=>?_⟩
    exact k ha r b a hr' ⟨⋯,by rw[Uu]; exact fc.cop⟩ rfl rfl rfl
end
inductive Zgg (CR cN:Addr) (vs:List V) (H:Hp) (Q:VK) (E:XK):Prop
  | mk (s:Addr) (p a:Int) (_:vs=[.ref s,.int a]) (_:ReA CR p H s) (_:M2.Prm p) (_:p<1000000) (_:a.natAbs<=10^100) (_:(p ∣ a->E (.ref cN) none H)) (_:(¬p ∣ a->∀(H':Hp) (r:Int),Same H H'->0<=r->r<p->p ∣ r*a-1->Q (.int r) H')):Zgg CR cN vs H Q E
section
variable{P:Program}{w:World}{K:PySem.W.Frag}{mg:Str->Option Value}{base:Heap}
theorem Zgh:FnScope ["self", "one"] ["self", "one"] (Zah ZcQ):=‹2›
theorem ZlI{CR cN:Addr}(h:HereM K CR "back" "Rests.back" ZcQ) (cl:Cls K CR) (hN:HasMX P w K mg base CR "number" 3 ["self", "top", "bottom"] [] (Zbz CR cN)):HasMX P w K mg base CR "back" 4 ["self", "one"] [] (Zgg CR cN):=by
  refine h.hasMX (λf fd F=>F.binds λ_ _ _ _ _ _ us hl=>by obtain ⟨_,_,rfl⟩:=ZdJ hl; exact rfl) λf fd F=>F.okx Zgh (λvs H Q E h=>?_) (λcdv A outer s H vs Q E hr h=>?_)
  · obtain ⟨_,_,_,rfl,_⟩:=h
    rfl
  obtain ⟨sr,p,a,rfl,⟨dx,hs⟩,pr,lp,la,k0,k⟩:=h
  refine ⟨_,(Zae (Zal (ZaS (pv 0) ZhE hr (Zaa Zad (Zaa (pv 1) Zac))))),?_⟩
  exact ⟨_,rfl,sr,CR,dx,_,_,_,_,rfl,hs,cl,hN,Zdg p ∅,_,rfl,sr,p,1,a,rfl,⟨dx,hs⟩,pr,lp,∅,la,k0,k⟩
end
inductive Zd7 (K:PySem.W.Frag) (CF:Addr) (vs:List V) (H:Hp) (Q:VK) (zE:XK):Prop
  | mk (s p:Addr) (a b:Int) (_:vs=[.ref s,.ref p]) (_:SqT K H p [.int a,.int b]) (_:Q (.bl (decide (a=0))) H):Zd7 K CF vs H Q zE
section
variable{P:Program}{w:World}{K:PySem.W.Frag}{mg:Str->Option Value}{base:Heap}
theorem ZcI:FnScope ["self", "one"] ["self", "one"] (Zah Za5):=‹2›
theorem Zje{CF:Addr}(h:HereM K CF "is_nought" "Fractions.is_nought" Za5):HasM P w K mg base CF "is_nought" 1 ["self", "one"] [] (Zd7 K CF):=by
  refine h.hasM (λf fd F=>F.binds λ_ _ _ _ _ _ us hl=>by obtain ⟨_,_,rfl⟩:=ZdJ hl; exact rfl) λf fd F=>F.ok ZcI (λvs H Q E h=>?_) (λcdv A outer s H vs Q E hr h=>?_)
  · obtain ⟨_,_,_,_,rfl,_⟩:=h
    rfl
  obtain ⟨sf,p,a,b,rfl,hp,k⟩:=h
  refine ⟨_,(Zae (Zal (Zbk Za9 (Zam Zaq (pv 1) Zad (λ_ _=>rfl)) Zad (Zas _)))),?_⟩
  refine ⟨_,rfl,_,_,_,_,rfl,rfl,hp,rfl,rfl,?_⟩
  rw[ZhB]
  exact k
end
inductive Zd8 (vs:List V) (H:Hp) (Q:VK) (zE:XK):Prop
  | mk (s:Addr) (a:Int) (_:vs=[.ref s,.int a]) (_:Q (.bl (decide (a=0))) H):Zd8 vs H Q zE
section
variable{P:Program}{w:World}{K:PySem.W.Frag}{mg:Str->Option Value}{base:Heap}
theorem ZdN:FnScope ["self", "one"] ["self", "one"] (Zah Zbx):=‹2›
theorem Zjf{CR:Addr}(h:HereM K CR "is_nought" "Rests.is_nought" Zbx):HasM P w K mg base CR "is_nought" 1 ["self", "one"] [] Zd8:=by
  refine h.hasM (λf fd F=>F.binds λ_ _ _ _ _ _ us hl=>by obtain ⟨_,_,rfl⟩:=ZdJ hl; exact rfl) λf fd F=>F.ok ZdN (λvs H Q E h=>?_) (λcdv A outer s H vs Q E hr h=>?_)
  · obtain ⟨_,_,rfl,_⟩:=h
    rfl
  obtain ⟨sf,a,rfl,k⟩:=h
  refine ⟨_,(Zae (Zal (Zbk Za9 (pv 1) Zad (Zas _)))),?_⟩
  refine ⟨_,rfl,rfl,?_⟩
  rw[ZhB]
  exact k
end
end My
namespace My
open PySem L2 PyProof.Rows
theorem Zfg(N:Int){D:Int}(hD:0<D):(Rat.divInt N D).num*D=N*(Rat.divInt N D).den:=by
  have h:=Qv (Rat.divInt N D)
  have hd:=(Za6 (Rat.divInt N D)).pos
  have:=(Qx (n₁:=(Rat.divInt N D).num) (d₁:=((Rat.divInt N D).den:Int)) (n₂:=N) (d₂:=D) ⋯ ⋯).mp h
  exact this
theorem ZhS{a b c:Int}(h:a ∣ b*c)(g:Int.gcd a b=1):a ∣ c:=by
  rw[<-U3] at h ⊢
  rw[Qt] at h
  exact Nat.Coprime.dvd_of_dvd_mul_left g h
theorem Zcg(N:Int){D:Int}(hD:0<D):((Rat.divInt N D).den:Int) ∣ D/\(Rat.divInt N D).num ∣ N:=by
  have e:=Zfg N hD
  have c:=(Za6 (Rat.divInt N D)).cop
  generalize (Rat.divInt N D).num=n at *
  generalize ((Rat.divInt N D).den:Int)=d at *
  refine ⟨?_,?_⟩
  · refine ZhS (b:=n) ⟨N,?_⟩ (by rw[Uu]; exact c)
    rw[e,Qo]
  · refine ZhS (b:=d) ⟨D,?_⟩ c
    rw[e,Qo]
theorem ZaV{a b:Int}(h:a ∣ b)(hb:b≠0):a.natAbs<=b.natAbs:=U2 ⋯ (U3.mpr h)
theorem ZeH{n:Nat}{a b:Int}(h:a ∣ b)(hb:Bits n b)(hz:b=0->a=0):Bits n a:=by
  by_cases z:b=0
  · rw[hz z]; exact Qh _
  · exact hb.le (ZaV h z)
theorem Zgi(N:Int){D:Int}(hD:0<D)(z:N=0):(Rat.divInt N D).num=0:=by
  subst z
  have e:=Zfg 0 hD
  rw[Int.zero_mul] at e
  rcases Int.mul_eq_zero.mp e with h | h
  · exact h
  · omega
def KdX(CF CR:Addr)(κ:KX)(H:Hp)(s:Addr):Prop:=match κ with
  | .q=>FrA CF H s
  | .r p _=>ReA CR p H s
theorem KdX.same{CF CR:Addr}{κ:KX}{H H':Hp}{k:Addr}(h:KdX CF CR κ H k)(S:Same H H'):KdX CF CR κ H' k:=by
  cases κ with
  | q=>obtain ⟨dx,h⟩:=h; exact ⟨dx,S _ _ h⟩
  | r p hp=>obtain ⟨dx,h⟩:=h; exact ⟨dx,S _ _ h⟩
theorem Zoq{CF CR:Addr}{p:Int}{H:Hp}{s:Addr}(h:KdA CF CR p H s):∃κ:KX,κ.P=p/\KdX CF CR κ H s:=by
  rcases h with ⟨rfl,h⟩ | ⟨pr,lp,h⟩
  · exact ⟨.q,rfl,h⟩
  · have h2:=pr.1
    have e:((p.toNat:Nat):Int)=p:=by omega
    refine ⟨.r p.toNat ⟨by rw[e]; exact pr,⋯⟩,e,?_⟩
    show ReA CR ((p.toNat:Nat):Int) H s
    rw[e]; exact h
abbrev B1(κ:KX)(x:κ.F):Prop:=Bd κ 1000000 4000 x
theorem ZaW{p:Nat}(h:PrN p)(x:Fin p):((x.val:Int)).natAbs<=10^150:=by
  have:=x.isLt
  have:=h.lt
  exact Q0 (show _<=1000000 by omega) ∅
def Zks(P:Program)(w:World)(K:PySem.W.Frag)(mg:Str->Option Value)(base:Heap)(CF CR:Addr)(m:Str)(g:(κ:KX)->κ.F->κ.F->κ.F):Prop :=
  ∀(κ:KX) (H:Hp) (s:Addr),KdX CF CR κ H s->∃C dx fs ps dvs sp,H s=some (.ins C dx fs)/\Cls K C/\HasM P w K mg base C m 2 ps dvs sp/\fs.lookup m=none/\dvs=[] ∧
    ∀(H':Hp) (u v:V) (x y:κ.F) (Q:VK),Same H H'->NR κ H' u x->NR κ H' v y->B1 κ x->B1 κ y->(∀t H'',Same H' H''->NR κ H'' t (g κ x y)->Q t H'')->sp [.ref s,u,v] H' Q E0
end My
namespace My
open PySem L2 PyProof.Rows
section
variable{P:Program}{w:World}{K:PySem.W.Frag}{mg:Str->Option Value}{base:Heap}{CF CR:Addr}
theorem Zkt(kd:Kd K mg CF CR)(hF:HasM P w K mg base CF "plus" 2 ["self", "one", "other"] [] (ZdM K CF)) (hR:HasM P w K mg base CR "plus" 2 ["self", "one", "other"] [] (Zfd CR λa b=>a+b)):Zks P w K mg base CF CR "plus" (λ_ x y=>x+y):=by
  intro κ H s hk
  cases κ with
  | q =>
    obtain ⟨dx,h⟩:=hk
    refine ⟨CF,dx,[],_,_,_,h,kd.clF,hF,rfl,rfl,λH' u v x y Q S hu hv bx by' k=>?_⟩
    obtain ⟨a,rfl,hu⟩:=hu
    obtain ⟨b,rfl,hv⟩:=hv
    refine ⟨s,a,b,_,_,_,_,rfl,⟨dx,S _ _ h⟩,SqT.of hu,SqT.of hv,Za6 x,Za6 y,bx.1,bx.2,by'.1,by'.2,λt H'' n d S' ht hn fc e=>?_⟩
    obtain ⟨e1,e2⟩:=Zko (x:=x) (y:=y) fc e
    refine k (.ref t) H'' S' ⟨t,rfl,?_⟩
    show H'' t=some (.tup [.int (x+y).num,.int ((x+y).den:Int)])
    rw[e1,e2]
    exact ht
  | r p hp =>
    obtain ⟨dx,h⟩:=hk
    refine ⟨CR,dx,fsR p,_,_,_,h,kd.clR,hR,Zdg _ ∅,rfl,λH' u v x y Q S hu hv _ _ k=>?_⟩
    have hu:u = .int x.val:=hu
    have hv:v = .int y.val:=hv
    subst hu hv
    refine ⟨s,p,_,_,rfl,⟨dx,S _ _ h⟩,by have:=hp.two; omega,ZaW hp x,ZaW hp y,k _ H' (Same.refl _) ?_⟩
    show V.int (((x.val:Int)+y.val)%p)=V.int ((Fin.val (x+y):Nat):Int)
    have e:Fin.val (x+y)=(x.val+y.val)%p:=Fin.val_add x y
    rw[e,Wm,Int.natCast_add]
end
section
variable{P:Program}{w:World}{K:PySem.W.Frag}{mg:Str->Option Value}{base:Heap}{CF CR:Addr}
theorem Zjg(kd:Kd K mg CF CR)(hF:HasM P w K mg base CF "times" 2 ["self", "one", "other"] [] (Zd4 K CF)) (hR:HasM P w K mg base CR "times" 2 ["self", "one", "other"] [] (Zfd CR λa b=>a*b)):Zks P w K mg base CF CR "times" (λ_ x y=>x*y):=by
  intro κ H s hk
  cases κ with
  | q =>
    obtain ⟨dx,h⟩:=hk
    refine ⟨CF,dx,[],_,_,_,h,kd.clF,hF,rfl,rfl,λH' u v x y Q S hu hv bx by' k=>?_⟩
    obtain ⟨a,rfl,hu⟩:=hu
    obtain ⟨b,rfl,hv⟩:=hv
    refine ⟨s,a,b,_,_,_,_,rfl,⟨dx,S _ _ h⟩,SqT.of hu,SqT.of hv,Za6 x,Za6 y,bx.1,bx.2,by'.1,by'.2,λt H'' n d S' ht hn fc e=>?_⟩
    obtain ⟨e1,e2⟩:=ZhO (x:=x) (y:=y) fc e
    refine k (.ref t) H'' S' ⟨t,rfl,?_⟩
    show H'' t=some (.tup [.int (x*y).num,.int ((x*y).den:Int)])
    rw[e1,e2]
    exact ht
  | r p hp =>
    obtain ⟨dx,h⟩:=hk
    refine ⟨CR,dx,fsR p,_,_,_,h,kd.clR,hR,Zdg _ ∅,rfl,λH' u v x y Q S hu hv _ _ k=>?_⟩
    have hu:u = .int x.val:=hu
    have hv:v = .int y.val:=hv
    subst hu hv
    refine ⟨s,p,_,_,rfl,⟨dx,S _ _ h⟩,by have:=hp.two; omega,ZaW hp x,ZaW hp y,k _ H' (Same.refl _) ?_⟩
    show V.int (((x.val:Int)*y.val)%p)=V.int ((Fin.val (x*y):Nat):Int)
    have e:Fin.val (x*y)=(x.val*y.val)%p:=Fin.val_mul x y
    rw[e,Wm,We]
end
end My
namespace L2
open PySem PySem.Spec PyProof.Rows
section
variable{X:Cx}
theorem Ziy:OpR X (binaryOp .FloorDiv) (rI (λ_ j=>j≠0/\Bits 8000 j) λi j => .int (i.fdiv j)):=opI λ_ _ _ _ _ _ _ hc q=>floordiv_int hc.1 q (.inl (PyProof.noPylong_of_log2 (Nat.lt_trans (hc.2.log hc.1) ∅)))
end
end L2
namespace My
open PySem L2 PyProof.Rows
section
variable{κ:KX}
def RowsX(κ:KX)(H:Hp)(as:List Addr)(R:List (List κ.F)):Prop:=as.length=R.length/\∀(i:Nat) a f,as[i]?=some a->R[i]?=some f->∃xs,H a=some (.lst xs)/\AllG (NR κ H) xs f
def AllR(Pr:κ.F->Prop)(R:List (List κ.F)):Prop:=∀f∈R,∀x∈f,Pr x
theorem RowsX.same{H H':Hp}{as:List Addr}{R:List (List κ.F)}(h:RowsX κ H as R)(S:Same H H'):RowsX κ H' as R :=
  ⟨h.1,λi a f ha hf=>let ⟨xs,hx,al⟩:=h.2 i a f ha hf; ⟨xs,S _ _ hx,al.mono λ_ _ n=>n.same S⟩⟩
theorem RowsX.off{H H':Hp}{t:Addr}{as:List Addr}{R:List (List κ.F)}{ys:List V}(h:RowsX κ H as R)(n:t∉as)(ht:H t=some (.lst ys))(O:Off [t] H H'):RowsX κ H' as R :=
  ⟨h.1,λi a f ha hf=>let ⟨xs,hx,al⟩:=h.2 i a f ha hf; ⟨xs,O _ _ (λm=>n (by rw[<-Q5.mp m]; exact Q8 ha)) hx,al.mono λ_ _ n=>n.off ht O⟩⟩
theorem RowsX.get{H:Hp}{as:List Addr}{R:List (List κ.F)}(h:RowsX κ H as R){i:Nat}(hi:i<R.length):∃a xs,as[i]?=some a/\H a=some (.lst xs)/\AllG (NR κ H) xs R[i]:=by
  have l:=h.1
  obtain ⟨xs,hx,al⟩:=h.2 i (as[i]'⋯) R[i] (Q2 ⋯) (Q2 hi)
  exact ⟨_,xs,Q2 ⋯,hx,al⟩
theorem RowsX.set{H:Hp}{as:List Addr}{R:List (List κ.F)}(h:RowsX κ H as R)(i:Nat){a:Addr}{xs:List V}{f:List κ.F}(hx:H a=some (.lst xs))(al:AllG (NR κ H) xs f):RowsX κ H (as.set i a) (R.set i f):=by
  have l:=h.1
  refine ⟨by rw[Qw,Qw,l],λj b g hb hg=>?_⟩
  rw[U1] at hb hg
  split at hb
  · rename_i e
    rw[if_pos e] at hg
    split at hb
    · rename_i hl
      rw[if_pos ⋯] at hg
      cases hb; cases hg; exact ⟨xs,hx,al⟩
    · cases hb
  · rename_i e
    rw[if_neg e] at hg
    exact h.2 j b g hb hg
inductive Tn (κ:KX) where
  | swap (i j:Int)
  | scale (i:Int) (c:κ.F)
  | add (i j:Int) (c:κ.F)
def TR(κ:KX)(H:Hp)(v:V)(t:Tn κ):Prop:=match t with
  | .swap i j=>∃a,v = .ref a/\H a=some (.tup [.str "swap", .int i,.int j])
  | .scale i c=>∃a u,v = .ref a/\H a=some (.tup [.str "scale", .int i,u])/\NR κ H u c
  | .add i j c=>∃a u,v = .ref a/\H a=some (.tup [.str "add", .int i,.int j,u])/\NR κ H u c
theorem TR.same{H H':Hp}{v:V}{t:Tn κ}(h:TR κ H v t)(S:Same H H'):TR κ H' v t:=by
  cases t with
  | swap i j=>obtain ⟨a,e,h⟩:=h; exact ⟨a,e,S _ _ h⟩
  | scale i c=>obtain ⟨a,u,e,h,n⟩:=h; exact ⟨a,u,e,S _ _ h,n.same S⟩
  | add i j c=>obtain ⟨a,u,e,h,n⟩:=h; exact ⟨a,u,e,S _ _ h,n.same S⟩
theorem TR.off{H H':Hp}{t:Addr}{ys:List V}{v:V}{x:Tn κ}(h:TR κ H v x)(ht:H t=some (.lst ys))(O:Off [t] H H'):TR κ H' v x:=by
  have na:∀a zs,H a=some (.tup zs)->a∉[t]:=λa zs q m=>by rw[Q5.mp m,ht] at q; cases q
  cases x with
  | swap i j=>obtain ⟨a,e,h⟩:=h; exact ⟨a,e,O _ _ (na _ _ h) h⟩
  | scale i c=>obtain ⟨a,u,e,h,n⟩:=h; exact ⟨a,u,e,O _ _ (na _ _ h) h,n.off ht O⟩
  | add i j c=>obtain ⟨a,u,e,h,n⟩:=h; exact ⟨a,u,e,O _ _ (na _ _ h) h,n.off ht O⟩
def Tn.ok(n:Nat):Tn κ->Prop
  | .swap i j=>(0<=i/\i<n)/\(0<=j/\j<n)/\i≠j
  | .scale i c=>(0<=i/\i<n)/\c≠0
  | .add i j _=>(0<=i/\i<n)/\(0<=j/\j<n)/\i≠j
def Tn.bd:Tn κ->Prop
  | .swap _ _=>True
  | .scale _ c=>B1 κ c
  | .add _ _ c=>B1 κ c
noncomputable def doT(t:Tn κ)(R:List (List κ.F)):List (List κ.F):=match t with
  | .swap i j=>(R.set i.toNat (R.getD j.toNat [])).set j.toNat (R.getD i.toNat [])
  | .scale i c=>R.set i.toNat ((R.getD i.toNat []).map (c * ·))
  | .add i j c=>R.set i.toNat (List.zipWith (· + ·) (R.getD i.toNat []) ((R.getD j.toNat []).map (c * ·)))
theorem Zd9(t:Tn κ)(R:List (List κ.F)):(doT t R).length=R.length:=by
  cases t <;> simp[doT]
end
inductive Zbe (CF CR:Addr) (vs:List V) (H:Hp) (Q:VK) (zE:XK):Prop
  | mk (κ:KX) (s r:Addr) (cv:V) (c:κ.F) (xs:List V) (f:List κ.F) (_:vs=[.ref s,cv,.ref r]) (_:KdX CF CR κ H s) (_:NR κ H cv c) (_:H r=some (.lst xs)) (_:AllG (NR κ H) xs f) (_:B1 κ c) (_:(∀x∈f,B1 κ x)) (_:f.length<=1000) (_:∀(H':Hp) (D:Addr) (ys:List V),Same H H'->H D=none->H' D=some (.lst ys)->AllG (NR κ H') ys (f.map (c * ·))->Q (.ref D) H'):Zbe CF CR vs H Q zE
inductive Zb1 (CF CR:Addr) (vs:List V) (H:Hp) (Q:VK) (zE:XK):Prop
  | mk (κ:KX) (s r1 r2:Addr) (xs ys:List V) (f g:List κ.F) (_:vs=[.ref s,.ref r1,.ref r2]) (_:KdX CF CR κ H s) (_:H r1=some (.lst xs)) (_:H r2=some (.lst ys)) (_:AllG (NR κ H) xs f) (_:AllG (NR κ H) ys g) (_:(∀x∈f,B1 κ x)) (_:(∀x∈g,B1 κ x)) (_:f.length<=1000) (_:∀(H':Hp) (D:Addr) (zs:List V),Same H H'->H D=none->H' D=some (.lst zs)->AllG (NR κ H') zs (List.zipWith (· + ·) f g)->Q (.ref D) H'):Zb1 CF CR vs H Q zE
theorem Zcy{p:Prop}[Decidable p]{A B:Prop}(h:p)(k:A):if decide p=true then A else B:=by rw[if_pos (decide_eq_true h)]; exact k
theorem ZcW{p:Prop}[Decidable p]{A B:Prop}(h:¬p)(k:B):if decide p=true then A else B:=by rw[if_neg (by simpa using h)]; exact k
theorem Znf{p:Prop}[Decidable p]{A B:Prop}(h:¬p)(k:A):if (!decide p)=true then A else B:=by rw[if_pos (by simpa using h)]; exact k
theorem Zor{p:Prop}[Decidable p]{A B:Prop}(h:p)(k:B):if (!decide p)=true then A else B:=by rw[if_neg (by simpa using h)]; exact k
theorem s12:V.str "swap" ≠ V.str "scale" := by decide
theorem s13:V.str "swap" ≠ V.str "add" := by decide
theorem s21:V.str "scale" ≠ V.str "swap" := by decide
theorem s31:V.str "add" ≠ V.str "swap" := by decide
theorem s32:V.str "add" ≠ V.str "scale" := by decide
theorem Zey{l:List Addr}(h:∀(i j:Nat) a,l[i]?=some a->l[j]?=some a->i=j):l.Nodup:=by
  refine List.pairwise_iff_getElem.mpr λi j hi hj lt e=>?_
  have:=h i j l[i] (Q2 hi) (by rw[e]; exact Q2 hj)
  omega
theorem Zhg{l:List Addr}{i:Nat}{a:Addr}(h:l.Nodup)(n:a∉l):(l.set i a).Nodup:=by
  refine Zey λx y b hx hy=>?_
  rw[U1] at hx hy
  split at hx
  · rename_i e1
    split at hy
    · rename_i e2; omega
    · split at hx
      · cases hx; exact absurd (Q8 hy) n
      · cases hx
  · split at hy
    · split at hy
      · cases hy; exact absurd (Q8 hx) n
      · cases hy
    · exact Zfb h hx hy
theorem ZlJ{l:List Addr}{i j:Nat}{a b:Addr}(hi:l[i]?=some a)(hj:l[j]?=some b)(x:Nat):((l.set i b).set j a)[x]?=if x=j then some a else if x=i then some b else l[x]?:=by
  have li:=(Qk.mp hi).1
  have lj:=(Qk.mp hj).1
  rw[U1]
  by_cases e:j=x
  · subst e
    rw[if_pos rfl,if_pos (by rw[Qw]; exact lj),if_pos rfl]
  · rw[if_neg e,if_neg (λz=>e z.symm),U1]
    by_cases e2:i=x
    · subst e2
      rw[if_pos rfl,if_pos li,if_pos rfl]
    · rw[if_neg e2,if_neg (λz=>e2 z.symm)]
theorem Zjh{l:List Addr}{i j:Nat}{a b:Addr}(h:l.Nodup)(hi:l[i]?=some a)(hj:l[j]?=some b):((l.set i b).set j a).Nodup:=by
  refine Zey λx y c hx hy=>?_
  rw[ZlJ hi hj] at hx hy
  have inj:=fun {p q:Nat} {d:Addr} (h1:l[p]?=some d) (h2:l[q]?=some d)=>Zfb h h1 h2
  by_cases x1:x=j
  · rw[if_pos x1] at hx
    cases hx
    by_cases y1:y=j
    · omega
    · rw[if_neg y1] at hy
      by_cases y2:y=i
      · rw[if_pos y2] at hy; cases hy; have:=inj hi hj; omega
      · rw[if_neg y2] at hy; have:=inj hi hy; omega
  · rw[if_neg x1] at hx
    by_cases x2:x=i
    · rw[if_pos x2] at hx
      cases hx
      by_cases y1:y=j
      · rw[if_pos y1] at hy; cases hy; have:=inj hi hj; omega
      · rw[if_neg y1] at hy
        by_cases y2:y=i
        · omega
        · rw[if_neg y2] at hy; have:=inj hj hy; omega
    · rw[if_neg x2] at hx
      by_cases y1:y=j
      · rw[if_pos y1] at hy; cases hy; have:=inj hi hx; omega
      · rw[if_neg y1] at hy
        by_cases y2:y=i
        · rw[if_pos y2] at hy; cases hy; have:=inj hj hx; omega
        · rw[if_neg y2] at hy; exact inj hx hy
theorem Ziz{l:List Addr}{i j:Nat}{a b c:Addr}(hi:l[i]?=some a)(hj:l[j]?=some b)(m:c∈(l.set i b).set j a):c∈l:=by
  rcases Wf m with m | rfl
  · rcases Wf m with m | rfl
    · exact m
    · exact Q8 hj
  · exact Q8 hi
def Tn.pre{κ:KX}(R:List (List κ.F)):Tn κ->Prop
  | .swap _ _=>True
  | .scale i c=>B1 κ c/\∀x∈R.getD i.toNat [],B1 κ x
  | .add i j c=>B1 κ c/\(∀x∈R.getD i.toNat [],B1 κ x)/\∀y∈R.getD j.toNat [],B1 κ y/\B1 κ (c*y)
inductive ZcX (CF CR:Addr) (vs:List V) (H:Hp) (Q:VK) (zE:XK):Prop
  | mk (κ:KX) (s r:Addr) (as:List Addr) (R:List (List κ.F)) (tv:V) (t:Tn κ) (_:vs=[.ref s,.ref r,tv]) (_:KdX CF CR κ H s) (_:H r=some (.lst (as.map V.ref))) (_:RowsX κ H as R) (_:r∉as) (_:(∀f∈R,f.length<=1000)) (_:TR κ H tv t) (_:t.ok R.length) (_:t.pre R) (_:∀(H':Hp) (as':List Addr),Off [r] H H'->H' r=some (.lst (as'.map V.ref))->RowsX κ H' as' (doT t R)->r∉as'->(as.Nodup->as'.Nodup)->(∀a∈as',a∈as\/H a=none)->Q .non H'):ZcX CF CR vs H Q zE
def Zku(P:Program)(w:World)(K:PySem.W.Frag)(mg:Str->Option Value)(base:Heap)(CF CR:Addr):Prop :=
  ∀(κ:KX) (H:Hp) (s:Addr),KdX CF CR κ H s->∃C dx fs ps dvs sp,H s=some (.ins C dx fs)/\Cls K C/\HasM P w K mg base C "is_nought" 2 ps dvs sp/\fs.lookup ("is_nought" : Str)=none/\dvs=[] ∧
    ∀(u:V) (x:κ.F) (Q:VK),NR κ H u x->(∀b:Bool,(b=true↔x=0)->Q (.bl b) H)->sp [.ref s,u] H Q E0
noncomputable def ZcJ{κ:KX}(ts:List (Tn κ))(R:List (List κ.F)):List (List κ.F):=ts.foldl (λR t=>doT t R) R
theorem ZeI{κ:KX}(ts:List (Tn κ)):∀R:List (List κ.F),(ZcJ ts R).length=R.length:=by
  induction ts with
  | nil=>exact λR=>rfl
  | cons t ts ih=>exact λR=>by show (ZcJ ts (doT t R)).length=_; rw[ih,Zd9]
theorem Zhh{κ:KX}(ts:List (Tn κ))(t:Tn κ)(R:List (List κ.F)):ZcJ (ts++[t]) R=doT t (ZcJ ts R):=by
  unfold ZcJ
  rw[List.foldl_append]
  rfl
theorem ZaO{α:Type}{R:List (List α)}{i:Nat}{f:List α}(h:R[i]?=some f):R.getD i []=f:=by rw[Q3,h]; rfl
def Wid{α:Type}(m:Nat)(R:List (List α)):Prop:=∀f∈R,f.length=m
theorem Wid.get{α:Type}{m:Nat}{R:List (List α)}(h:Wid m R){i:Nat}(hi:i<R.length):(R.getD i []).length=m:=by
  rw[ZaO (Q2 hi)]
  exact h _ (Qf hi)
theorem Wid.set{α:Type}{m i:Nat}{R:List (List α)}{f:List α}(h:Wid m R)(e:f.length=m):Wid m (R.set i f):=λg hg=>by
  rcases Wf hg with hg | rfl
  · exact h g hg
  · exact e
theorem Zfh{κ:KX}{m:Nat}{t:Tn κ}{R:List (List κ.F)}(h:Wid m R)(ok:t.ok R.length):Wid m (doT t R):=by
  cases t with
  | swap i j =>
    obtain ⟨hi,hj,_⟩:=ok
    exact (h.set (h.get ⋯)).set (h.get ⋯)
  | scale i c =>
    obtain ⟨hi,_⟩:=ok
    refine h.set ?_
    rw[Q1]
    exact h.get ⋯
  | add i j c =>
    obtain ⟨hi,hj,_⟩:=ok
    refine h.set ?_
    rw[Uc,Q1,h.get ⋯,h.get ⋯]
    exact Nat.min_self m
theorem ZaH{H H':Hp}{t:Addr}{o:HO}(S:Same H H'):Off [t] H (upd H' t o):=λb u n q=>by
  rw[Zav (λz=>n (by rw[z]; exact Q5.mpr rfl))]
  exact S _ _ q
theorem Zfi{as:List Addr}{i:Int}{a:Addr}(h0:0<=i)(h:as[i.toNat]?=some a):atI (as.map V.ref) i=some (.ref a):=by
  have e:i=((i.toNat:Nat):Int):=by omega
  rw[e]
  exact Zbi h
theorem Zgj{n:Nat}{i:Int}(h0:0<=i)(h:i<n):ixN n i=some i.toNat:=by
  have e:i=((i.toNat:Nat):Int):=by omega
  rw[e,Q6]
  exact Zfc ⋯
theorem Zcz{as:List Addr}{i:Nat}{a:Addr}:(as.map V.ref).set i (.ref a)=(as.set i a).map V.ref:=by rw[List.map_set]
theorem RowsX.notin{κ:KX}{H:Hp}{as:List Addr}{R:List (List κ.F)}{r:Addr}(h:RowsX κ H as R)(n:H r=none):r∉as:=λm=>by
  obtain ⟨i,hi,e⟩:=Wg m
  have l:=h.1
  obtain ⟨zs,hz,_⟩:=h.2 i r _ (by rw[<-e]; exact Q2 hi) (Q2 (show i<R.length by omega))
  rw[hz] at n; cases n
theorem RowsX.snoc{κ:KX}{H:Hp}{as:List Addr}{R:List (List κ.F)}{a:Addr}{xs:List V}{f:List κ.F}(h:RowsX κ H as R)(hx:H a=some (.lst xs))(al:AllG (NR κ H) xs f):RowsX κ H (as++[a]) (R++[f]):=by
  have l:=h.1
  refine ⟨by rw[Qb,Qb,l]; rfl,λi b g hb hg=>?_⟩
  by_cases hi:i<as.length
  · rw[Wi hi] at hb
    rw[Wi ⋯] at hg
    exact h.2 i b g hb hg
  · rw[Ws ⋯] at hb hg
    rw[<-l] at hg
    cases q:i-as.length with
    | zero=>rw[q] at hb hg; cases hb; cases hg; exact ⟨xs,hx,al⟩
    | succ n=>rw[q] at hb; simp at hb
theorem RowsX.nil{κ:KX}{H:Hp}:RowsX κ H [] []:=⟨rfl,λi a f h=>by simp at h⟩
theorem ZfU{l:List Addr}{a:Addr}(h:l.Nodup)(n:a∉l):(l++[a]).Nodup:=by
  rw[List.nodup_append]
  exact ⟨h,by simp,λx hx y hy=>by rw[Q5] at hy; subst hy; exact λz=>n (z ▸ hx)⟩
open PySem L2 PyProof.Rows
def Sz(κ:KX)(n:Nat)(x:κ.F):Prop:=match κ with
  | .q=>(x.den:Int) ∣ 60*12^n/\Bits (200+700*n) x.num
  | .r _ _=>True
def Sc(κ:KX)(x:κ.F):Prop:=match κ with
  | .q=>(x.den:Int) ∣ 12/\Bits 200 x.num
  | .r _ _=>True
theorem Zqo{t b:Int}(hb:0<b):(t.fdiv (Int.gcd t b)=(Rat.divInt t b).num)/\(b.fdiv (Int.gcd t b)=((Rat.divInt t b).den:Int)):=by
  obtain ⟨l1,l2,l3,_,_⟩:=M3.low (t:=t) hb
  obtain ⟨e1,e2⟩:=Zkn (N:=t) (D:=b) ⟨l2,l1⟩ hb l3
  exact ⟨e1.symm,e2.symm⟩
inductive Zfj (vs:List V) (H:Hp) (Q:VK) (zE:XK):Prop
  | mk (t b:Int) (_:vs=[.int t,.int b]) (_:0<b) (_:Bits 8000 b) (_:∀r,H r=none->Q (.ref r) (upd H r (.tup [.int (Rat.divInt t b).num,.int ((Rat.divInt t b).den:Int)]))):Zfj vs H Q zE
inductive Zbf (g:(κ:KX)->κ.F->κ.F->κ.F) (vs:List V) (H:Hp) (Q:VK) (zE:XK):Prop
  | mk (κ:KX) (u v:V) (x y:κ.F) (_:vs=[.int κ.P,u,v]) (_:NR κ H u x) (_:NR κ H v y) (_:B1 κ x) (_:B1 κ y) (_:∀H' t,Same H H'->NR κ H' t (g κ x y)->Q t H'):Zbf g vs H Q zE
theorem Zkv{p:Nat}{h:PrN p}:0<(KX.r p h).P:=by have:=h.two; show 0<(p:Int); omega
theorem Zos{p:Nat}(h:PrN p)(c:Int):∃x:Fin p,(c.fmod (p:Int))=(x.val:Int):=by
  have h2:=h.two
  rw[W5 _ ⋯]
  have e0:=Ul c (show (p:Int)≠0 by omega)
  have e1:=Uz c (show 0<(p:Int) by omega)
  exact ⟨⟨(c%p).toNat,⋯⟩,by show c%p=(((c%p).toNat:Nat):Int); omega⟩
theorem AllR.snoc{κ:KX}{Pr:κ.F->Prop}{R:List (List κ.F)}{f:List κ.F}(h:AllR Pr R)(g:∀x∈f,Pr x):AllR Pr (R++[f]):=λe he=>by
  rcases Qj.mp he with he | he
  · exact h e he
  · rw[Q5.mp he]; exact g
theorem Wid.snoc{α:Type}{m:Nat}{R:List (List α)}{f:List α}(h:Wid m R)(e:f.length=m):Wid m (R++[f]):=λg hg=>by
  rcases Qj.mp hg with hg | hg
  · exact h g hg
  · rw[Q5.mp hg]; exact e
theorem ZhT{a b:Int}{A B:Prop}(h:a=b)(k:A):if decide (V.int a=V.int b)=true then A else B:=Zbr (λ_=>k) (λz=>absurd h z)
theorem Zkw{a b:Int}{A B:Prop}(h:a≠b)(k:B):if decide (V.int a=V.int b)=true then A else B:=Zbr (λz=>absurd z h) (λ_=>k)
def TSc{κ:KX}:Tn κ->Prop
  | .swap _ _=>True
  | .scale _ c=>Sc κ c
  | .add _ _ c=>Sc κ c
noncomputable abbrev K1(κ:KX):κ.F:=1
noncomputable abbrev K0(κ:KX):κ.F:=0
theorem Zgk{p:Nat}(h:PrN p):Fin.val (K1 (.r p h))=1:=by
  show 1%p=1
  exact Nat.mod_eq_of_lt h.two
theorem ZeJ{p:Nat}(h:PrN p):Fin.val (K0 (.r p h))=0:=by
  show 0%p=0
  exact Nat.zero_mod p
theorem Zng{a:Int}{n:Nat}(h:1<=n):∃i:Nat,a.fmod (n:Int)=(i:Int)/\i<n:=by
  rw[W5 _ ⋯]
  have e0:=Ul a (show (n:Int)≠0 by omega)
  have e1:=Uz a (show 0<(n:Int) by omega)
  exact ⟨(a%n).toNat,⋯,⋯⟩
def Zot{κ:KX}(R:List (List κ.F)):PyData:=.list (R.map λf => .list (f.map κ.D))
theorem RowsX.rp{κ:KX}{H:Hp}{t:Addr}{as:List Addr}{R:List (List κ.F)}(h:RowsX κ H as R)(ht:H t=some (.lst (as.map V.ref))):Rp H 3 (.ref t) (Zot R):=by
  refine Zhe ht ⟨by rw[Q1,Q1]; exact h.1,λi v d hv hd=>?_⟩
  obtain ⟨a,ha,rfl⟩:=Zaw hv
  rw[Qa] at hd
  cases e:R[i]? with
  | none=>rw[e] at hd; cases hd
  | some f =>
    rw[e] at hd
    cases hd
    obtain ⟨xs,hx,al⟩:=h.2 i a f ha e
    exact Zhe hx (al.all2 λ_ _ n=>n.rp)
theorem Zqp{us:List Value}(h:us.length=5):∃a b c d e,us=[a,b,c,d,e]:=match us,h with | [a,b,c,d,e],_=>⟨a,b,c,d,e,rfl⟩
theorem ZeK{κ:KX}{m:Nat}{ts:List (Tn κ)}:∀ {R:List (List κ.F)},Wid m R->(∀t∈ts,t.ok R.length)->Wid m (ZcJ ts R):=by
  induction ts with
  | nil=>exact λh _=>h
  | cons t ts ih =>
    intro R h ok
    show Wid m (ZcJ ts (doT t R))
    refine ih (Zfh h (ok t (by simp))) λt' ht'=>?_
    rw[Zd9]
    exact ok t' (by simp[ht'])
section
variable{κ:KX}
theorem AllR.getD{Pr:κ.F->Prop}{R:List (List κ.F)}(h:AllR Pr R)(i:Nat):∀x∈R.getD i [],Pr x:=λx hx=>by
  rw[Q3] at hx
  cases e:R[i]? with
  | none=>rw[e] at hx; cases hx
  | some f=>rw[e] at hx; exact h f (Q8 e) x hx
theorem AllR.set{Pr:κ.F->Prop}{R:List (List κ.F)}{i:Nat}{f:List κ.F}(h:AllR Pr R)(g:∀x∈f,Pr x):AllR Pr (R.set i f):=λe he=>by
  rcases Wf he with he | rfl
  · exact h e he
  · exact g
theorem Zfk{α:Type}{f:α->α->α}{z:α}:∀ {a b:List α},z∈List.zipWith f a b->∃x∈a,∃y∈b,z=f x y
  | [],_,h=>by simp at h
  | _::_,[],h=>by simp at h
  | x::a,y::b,h=>by
    rw[List.zipWith_cons_cons] at h
    rcases Q9.mp h with rfl | h
    · exact ⟨x,by simp,y,by simp,rfl⟩
    · obtain ⟨u,hu,v,hv,e⟩:=Zfk h
      exact ⟨u,by simp[hu],v,by simp[hv],e⟩
end
structure TU (κ:KX) (H:Hp) (U:Addr) (n:Nat) (tvs:List V) (ts:List (Tn κ)):Prop where
  l:H U=some (.lst tvs)
  al:AllG (TR κ H) tvs ts
  ok:∀t∈ts,t.ok n
  sc:∀t∈ts,TSc t
  l1:1<=ts.length
  l3:ts.length<=300
  lq:κ = .q->ts.length<=64
theorem ZdO(xs:List V)(n:Nat):ZeT xs none (some (n:Int))=xs.take n:=by
  unfold ZeT
  rw[HT.sIx_none,List.drop_zero,Nat.sub_zero]
  rw[HT.sIx_nat,Nat.min_def]
  split
  · rfl
  · rw[Wy (Q4 _),Wy ⋯]
theorem Zkx(xs:List V)(n:Nat):ZeT xs (some (n:Int)) none=xs.drop n:=by
  unfold ZeT
  rw[HT.sIx_none,HT.sIx_nat]
  by_cases h:n<=xs.length
  · rw[Nat.min_eq_left h,Wy]
    rw[Wj]
    omega
  · rw[Nat.min_eq_right ⋯,List.drop_of_length_le ⋯,List.drop_of_length_le ⋯]
    simp
end My
namespace My
open PySem L2 PyProof.Rows
theorem ZeL{α:Type}[Fd α]{x r:α}(h:x*r=1):r=Fd.inv x:=by
  have hx:x≠0:=λz=>by
    subst z
    have e:(0:α)*r=0:=by grind
    rw[e] at h
    exact Fd.zne h
  have:=Fd.mul_inv x hx
  grind
theorem ZiA{n d:Int}(fc:Fc n d):∃q:Rat,q.num=n/\(q.den:Int)=d:=by
  have hd:=fc.pos
  refine ⟨⟨n,d.toNat,⋯,?_⟩,rfl,by show ((d.toNat:Nat):Int)=d; omega⟩
  have:=fc.cop
  rw[Nat.coprime_iff_gcd_eq_one]
  have e:Int.gcd n d=Nat.gcd n.natAbs d.natAbs:=rfl
  have e2:d.natAbs=d.toNat:=by omega
  rw[<-e2]
  omega
theorem Zky{q:Rat}{x y:Int}(fc:Fc x y)(e:x*q.num=q.den*y):(Fd.inv q:Rat).num=x/\((Fd.inv q:Rat).den:Int)=y:=by
  obtain ⟨r,e1,e2⟩:=ZiA fc
  have m:=ZhO (x:=q) (y:=r) (n:=1) (d:=1) ⟨∅,∅⟩ (by rw[e1,e2]; have:q.num*x=x*q.num:=Qo _ _; omega)
  have h1:q*r=1:=by
    rw[<-Qv (q*r),m.1,m.2]; rfl
  have:=ZeL (α:=Rat) h1
  rw[<-this]
  exact ⟨e1,e2⟩
theorem Znh{x y:Rat}{n d:Int}(fc:Fc n d)(e:n*((x.den:Int)*y.den)=(x.num*y.den+(-y.num)*x.den)*d):(x-y).num=n/\((x-y).den:Int)=d:=by
  have h1:(-y).num = -y.num:=rfl
  have h2:(-y).den=y.den:=rfl
  have:x-y=x+(-y):=by grind
  rw[this]
  refine Zko (x:=x) (y:=-y) fc ?_
  rw[h1,h2]; exact e
theorem Zmo{κ:KX}{n m:Nat}{x:κ.F}(h:Bd κ n m x):Bd κ n m (0-x):=by
  cases κ with
  | r p hp=>exact trivial
  | q =>
    have e:(0-x:Rat) = -x:=by grind
    have h1:(-x:Rat).num = -Rat.num x:=rfl
    have h2:(-x:Rat).den=Rat.den x:=rfl
    refine ⟨?_,?_⟩
    · show Bits n (0-x:Rat).num
      rw[e,h1]; exact Bits.le h.1 ⋯
    · show Bits m ((0-x:Rat).den:Int)
      rw[e,h2]; exact h.2
noncomputable abbrev KX.mulF(κ:KX)(x y:κ.F):κ.F:=x*y
noncomputable abbrev KX.invF(κ:KX)(x:κ.F):κ.F:=Fd.inv x
theorem Zhi{κ:KX}{x r:κ.F}(h:κ.mulF x r=K1 κ):r=κ.invF x:=ZeL h
def NumV(κ:KX)(t:Int)(x:κ.F):Prop:=match κ with
  | .q=>x.num=t/\x.den=1
  | .r p _=>t.natAbs<=10^140/\(x.val:Int)=t%p
theorem ZfA{κ:KX}:NumV κ 0 0:=by
  cases κ with
  | q=>exact ⟨rfl,rfl⟩
  | r p h=>exact ⟨∅,by show ((Fin.val (K0 (.r p h)):Nat):Int)=_; rw[ZeJ]; simp⟩
theorem ZeD{κ:KX}:NumV κ 1 1:=by
  cases κ with
  | q=>exact ⟨rfl,rfl⟩
  | r p h=>exact ⟨∅,by
      show ((Fin.val (K1 (.r p h)):Nat):Int)=_
      rw[Zgk]
      have:=h.two
      exact (Ub ∅ ⋯).symm⟩
theorem NumV.uniq{κ:KX}{t:Int}{x y:κ.F}(h:NumV κ t x)(h':NumV κ t y):x=y:=by
  cases κ with
  | q =>
    have e1:Rat.num x=Rat.num y:=h.1.trans h'.1.symm
    have e2:Rat.den x=Rat.den y:=h.2.trans h'.2.symm
    exact Rat.ext e1 e2
  | r p hp =>
    refine Fin.ext ?_
    have e:(Fin.val x:Int)=Fin.val y:=h.2.trans h'.2.symm
    omega
def Zni(P:Program)(w:World)(K:PySem.W.Frag)(mg:Str->Option Value)(base:Heap)(CF CR:Addr):Prop :=
  ∀(κ:KX) (H:Hp) (s:Addr),KdX CF CR κ H s->∃C dx fs ps dvs sp,H s=some (.ins C dx fs)/\Cls K C/\HasM P w K mg base C "minus" 3 ps dvs sp/\fs.lookup ("minus" : Str)=none/\dvs=[] ∧
    ∀(H':Hp) (u v:V) (x y:κ.F) (Q:VK),Same H H'->NR κ H' u x->NR κ H' v y->B1 κ x->B1 κ y->(∀t H'',Same H' H''->NR κ H'' t (x-y)->Q t H'')->sp [.ref s,u,v] H' Q E0
def ZcA(P:Program)(w:World)(K:PySem.W.Frag)(mg:Str->Option Value)(base:Heap)(CF CR:Addr):Prop :=
  ∀(κ:KX) (H:Hp) (s:Addr),KdX CF CR κ H s->∃C dx fs ps dvs sp,H s=some (.ins C dx fs)/\Cls K C/\HasMX P w K mg base C "number" 3 ps dvs sp/\fs.lookup ("number" : Str)=none/\dvs=[.int 1] ∧
    ∀(H':Hp) (t:Int) (x:κ.F) (Q:VK) (E:XK),Same H H'->NumV κ t x->(∀v H'',Same H' H''->NR κ H'' v x->Q v H'')->sp [.ref s,.int t,.int 1] H' Q E
def Zgl(P:Program)(w:World)(K:PySem.W.Frag)(mg:Str->Option Value)(base:Heap)(CF CR:Addr):Prop :=
  ∀(κ:KX) (H:Hp) (s:Addr),KdX CF CR κ H s->∃C dx fs ps dvs sp,H s=some (.ins C dx fs)/\Cls K C/\HasMX P w K mg base C "back" 4 ps dvs sp/\fs.lookup ("back" : Str)=none/\dvs=[] ∧
    ∀(H':Hp) (u:V) (x:κ.F) (Q:VK) (E:XK),Same H H'->NR κ H' u x->x≠0->(∀v H'',Same H' H''->NR κ H'' v (Fd.inv x)->Q v H'')->sp [.ref s,u] H' Q E
section
variable{P:Program}{w:World}{K:PySem.W.Frag}{mg:Str->Option Value}{base:Heap}{CF CR cN:Addr}
theorem Zji(kd:Kd K mg CF CR)(hF:HasM P w K mg base CF "minus" 3 ["self", "one", "other"] [] (Zd5 K CF)) (hR:HasM P w K mg base CR "minus" 3 ["self", "one", "other"] [] (Zfd CR λa b=>a-b)):Zni P w K mg base CF CR:=by
  intro κ H s hk
  cases κ with
  | q =>
    obtain ⟨dx,h⟩:=hk
    refine ⟨CF,dx,[],_,_,_,h,kd.clF,hF,rfl,rfl,λH' u v x y Q S hu hv bx by' k=>?_⟩
    obtain ⟨a,rfl,hu⟩:=hu
    obtain ⟨b,rfl,hv⟩:=hv
    refine ⟨s,a,b,_,_,_,_,rfl,⟨dx,S _ _ h⟩,SqT.of hu,SqT.of hv,Za6 x,Za6 y,bx.1,bx.2,by'.1,by'.2,λt H'' n d S' ht hn fc e=>?_⟩
    obtain ⟨e1,e2⟩:=Znh (x:=x) (y:=y) fc e
    refine k (.ref t) H'' S' ⟨t,rfl,?_⟩
    show H'' t=some (.tup [.int (x-y:Rat).num,.int ((x-y:Rat).den:Int)])
    rw[e1,e2]
    exact ht
  | r p hp =>
    obtain ⟨dx,h⟩:=hk
    refine ⟨CR,dx,fsR p,_,_,_,h,kd.clR,hR,Zdg _ ∅,rfl,λH' u v x y Q S hu hv _ _ k=>?_⟩
    have hu:u = .int x.val:=hu
    have hv:v = .int y.val:=hv
    subst hu hv
    refine ⟨s,p,_,_,rfl,⟨dx,S _ _ h⟩,by have:=hp.two; omega,ZaW hp x,ZaW hp y,k _ H' (Same.refl _) ?_⟩
    show V.int (((x.val:Int)-y.val)%p)=V.int ((Fin.val (x-y):Nat):Int)
    have e:Fin.val (x-y)=(p-y.val+x.val)%p:=rfl
    have ly:=y.isLt
    have e2:(((p-y.val+x.val:Nat)):Int)=((x.val:Int)-y.val)+p:=by omega
    rw[e,Wm,e2,Int.add_emod_right]
theorem ZhU(kd:Kd K mg CF CR)(hF:HasMX P w K mg base CF "number" 3 ["self", "top", "bottom"] [.int 1] (Zdc cN)) (hR:HasMX P w K mg base CR "number" 3 ["self", "top", "bottom"] [.int 1] (Zbz CR cN)):ZcA P w K mg base CF CR:=by
  intro κ H s hk
  cases κ with
  | q =>
    obtain ⟨dx,h⟩:=hk
    refine ⟨CF,dx,[],_,_,_,h,kd.clF,hF,rfl,rfl,λH' t x Q E S hx k=>⟨s,t,1,rfl,∅,λz=>absurd z ∅,λ_ r n d nr fc e l1 l2=>?_⟩⟩
    have y1:d=1:=by
      have:=fc.pos
      have l3:d.natAbs<=1:=l2
      omega
    subst y1
    have x1:n=t:=by omega
    subst x1
    have e1:Rat.num x=n:=hx.1
    have e2:Rat.den x=1:=hx.2
    refine k _ _ (Zag nr _) ⟨r,rfl,?_⟩
    show upd H' r _ r=some (.tup [.int (Rat.num x),.int ((Rat.den x:Nat):Int)])
    rw[e1,e2]; exact Zaf
  | r p hp =>
    obtain ⟨dx,h⟩:=hk
    have h2:=hp.pr.1
    refine ⟨CR,dx,_,_,_,_,h,kd.clR,hR,Zdg p ∅,rfl,λH' t x Q E S hx k=>⟨s,p,t,1,rfl,⟨dx,S _ _ h⟩,hp.pr,by have:=hp.lt; omega,hx.1,∅,λz=>?_,λ_ H'' r S' r0 r1 rd=>?_⟩⟩
    · have:=Int.le_of_dvd ∅ z
      omega
    · refine k _ H'' S' ?_
      show V.int r=V.int ((Fin.val x:Nat):Int)
      have e:(Fin.val x:Int)=t%p:=hx.2
      rw[e]
      congr 1
      rw[U8] at rd
      have e3:r%p=t%p:=Int.emod_eq_emod_iff_emod_sub_eq_zero.mpr (Wz rd)
      rw[<-e3]
      exact (Ub r0 r1).symm
theorem Zkz(kd:Kd K mg CF CR)(hF:HasMX P w K mg base CF "back" 4 ["self", "one"] [] (Zgf K cN)) (hR:HasMX P w K mg base CR "back" 4 ["self", "one"] [] (Zgg CR cN)):Zgl P w K mg base CF CR:=by
  intro κ H s hk
  cases κ with
  | q =>
    obtain ⟨dx,h⟩:=hk
    refine ⟨CF,dx,[],_,_,_,h,kd.clF,hF,rfl,rfl,λH' u x Q E S hu hx k=>?_⟩
    obtain ⟨a,rfl,hu⟩:=hu
    have hn:Rat.num x≠0:=λz=>hx (Rat.num_eq_zero.mp z)
    refine ⟨s,a,_,_,rfl,SqT.of hu,Za6 x,λz=>absurd z hn,λ_ r n d nr fc e l1 l2=>?_⟩
    obtain ⟨e1,e2⟩:=Zky (q:=x) fc e
    refine k _ _ (Zag nr _) ⟨r,rfl,?_⟩
    show upd H' r _ r=some (.tup [.int (Fd.inv x:Rat).num,.int ((Fd.inv x:Rat).den:Int)])
    rw[e1,e2]; exact Zaf
  | r p hp =>
    obtain ⟨dx,h⟩:=hk
    have h2:=hp.two
    refine ⟨CR,dx,_,_,_,_,h,kd.clR,hR,Zdg p ∅,rfl,λH' u x Q E S hu hx k=>?_⟩
    have hu:u = .int x.val:=hu
    subst hu
    have xl:=x.isLt
    have x0:x.val≠0:=λz=>hx (show x=K0 (.r p hp) from Fin.ext (by rw[ZeJ]; exact z))
    have nd:¬(p:Int) ∣ (x.val:Int):=λz=>by
      have:=Int.le_of_dvd ⋯ z
      omega
    refine ⟨s,p,_,rfl,⟨dx,S _ _ h⟩,hp.pr,by have:=hp.lt; omega,Q0 (show _<=1000000 by have:=hp.lt; omega) ∅,λz=>absurd z nd,λ_ H'' r S' r0 r1 rd=>?_⟩
    refine k _ H'' S' ?_
    have hy:(KX.r p hp).mulF x (⟨r.toNat,⋯⟩:Fin p)=K1 (.r p hp):=by
      refine Fin.ext ?_
      show Fin.val ((x:Fin p)*(⟨r.toNat,⋯⟩:Fin p))=Fin.val (K1 (.r p hp))
      rw[Zgk,Fin.val_mul]
      show x.val*r.toNat%p=1
      have e:((x.val*r.toNat%p:Nat):Int)=((1:Nat):Int):=by
        rw[Wm,We,Int.toNat_of_nonneg r0]
        have e3:r*(x.val:Int)%p=1%p:=Int.emod_eq_emod_iff_emod_sub_eq_zero.mpr (Wz rd)
        rw[Qo,e3]
        exact Ub ∅ ⋯
      exact_mod_cast e
    have:=Zhi (κ:=.r p hp) hy
    show V.int r=V.int ((Fin.val ((KX.r p hp).invF x):Nat):Int)
    rw[show (KX.r p hp).invF x=_ from this.symm]
    show V.int r=V.int ((r.toNat:Nat):Int)
    rw[Int.toNat_of_nonneg r0]
end
end My
namespace My
open PySem L2 PyProof.Rows
theorem Znj{κ:KX}:B1 κ 0:=by
  cases κ with
  | q=>exact ⟨Bits.of (by show (0:Int).natAbs<_; exact Nat.two_pow_pos _),Bits.of (by show (1:Int).natAbs<_; exact Q7 (show 1<2^1 by decide) (Qd ∅ ∅))⟩
  | r p h=>trivial
end My
namespace My
open PySem L2 PyProof.Rows
section
variable{κ:KX}
noncomputable def ent(R:List (List κ.F))(i j:Nat):κ.F:=(R.getD i []).getD j 0
theorem ZaU{α:Type}{R:List (List α)}{i:Nat}{f:List α}(h:i<R.length):(R.set i f).getD i []=f:=ZaO (by rw[U1,if_pos rfl,if_pos h])
theorem Zbh{α:Type}{R:List (List α)}{i j:Nat}{f:List α}(h:i≠j):(R.set i f).getD j []=R.getD j []:=by
  rw[Q3,Q3,U1,if_neg h]
theorem Zgm{R:List (List κ.F)}{i k j:Nat}{f:List κ.F}(h:i<R.length):ent (R.set i f) k j=if k=i then f.getD j 0 else ent R k j:=by
  unfold ent
  by_cases e:k=i
  · subst e; rw[if_pos rfl,ZaU h]
  · rw[if_neg e,Zbh (Ne.symm e)]
theorem Zgn(f:List κ.F)(c:κ.F)(j:Nat):(f.map (c * ·)).getD j 0=c*f.getD j 0:=by
  rw[Q3,Q3,Qa]
  cases f[j]? with
  | none=>show (0:κ.F)=c*0; grind
  | some x=>rfl
theorem ZlK{f g:List κ.F}(h:f.length=g.length)(j:Nat):(List.zipWith (· + ·) f g).getD j 0=f.getD j 0+g.getD j 0:=by
  rw[Q3,Q3,Q3,List.getElem?_zipWith]
  by_cases hj:j<f.length
  · rw[Q2 hj,Q2 ⋯]; rfl
  · rw[U4 ⋯,U4 ⋯]
    show (0:κ.F)=0+0
    grind
theorem Zgo{R:List (List κ.F)}{a b:Int}(ha:a.toNat<R.length)(hb:b.toNat<R.length)(i j:Nat):ent (doT (.swap a b) R) i j=if i=b.toNat then ent R a.toNat j else if i=a.toNat then ent R b.toNat j else ent R i j:=by
  show ent ((R.set a.toNat (R.getD b.toNat [])).set b.toNat (R.getD a.toNat [])) i j=_
  rw[Zgm (by rw[Qw]; exact hb),Zgm ha]
  rfl
theorem ZbS{R:List (List κ.F)}{a:Int}{c:κ.F}(ha:a.toNat<R.length)(i j:Nat):ent (doT (.scale a c) R) i j=if i=a.toNat then c*ent R i j else ent R i j:=by
  show ent (R.set a.toNat ((R.getD a.toNat []).map (c * ·))) i j=_
  rw[Zgm ha,Zgn]
  by_cases e:i=a.toNat
  · rw[if_pos e,if_pos e,e]; rfl
  · rw[if_neg e,if_neg e]
theorem Zgp{m:Nat}{R:List (List κ.F)}{a b:Int}{c:κ.F}(wd:Wid m R)(ha:a.toNat<R.length)(hb:b.toNat<R.length)(i j:Nat):ent (doT (.add a b c) R) i j=if i=a.toNat then ent R i j+c*ent R b.toNat j else ent R i j:=by
  show ent (R.set a.toNat (List.zipWith (· + ·) (R.getD a.toNat []) ((R.getD b.toNat []).map (c * ·)))) i j=_
  rw[Zgm ha,ZlK (by rw[Q1,wd.get ha,wd.get hb]),Zgn]
  by_cases e:i=a.toNat
  · rw[if_pos e,if_pos e,e]; rfl
  · rw[if_neg e,if_neg e]
theorem RowsX.ent{m:Nat}{H:Hp}{as:List Addr}{R:List (List κ.F)}(rx:RowsX κ H as R)(wd:Wid m R){i j:Nat}(hi:i<R.length)(hj:j<m):∃a xs v,as[i]?=some a/\H a=some (.lst xs)/\xs[j]?=some v/\NR κ H v (ent R i j):=by
  obtain ⟨a,xs,ha,hx,al⟩:=rx.get hi
  have l:=wd.get hi
  have e:R.getD i []=R[i]:=ZaO (Q2 hi)
  rw[e] at l
  obtain ⟨v,hv,nv⟩:=al.get' (i:=j) ⋯
  refine ⟨a,xs,v,ha,hx,hv,?_⟩
  unfold My.ent
  rw[e,Q3,Q2 ⋯]
  exact nv
theorem ZkA{m:Nat}{Pr:κ.F->Prop}{R:List (List κ.F)}(wd:Wid m R)(h:∀i<R.length,∀j<m,Pr (ent R i j)):AllR Pr R:=by
  intro f hf x hx
  obtain ⟨i,hi,rfl⟩:=Wg hf
  obtain ⟨j,hj,rfl⟩:=Wg hx
  have l:=wd _ hf
  have:=h i hi j ⋯
  unfold ent at this
  rw[ZaO (Q2 hi),Q3,Q2 hj] at this
  exact this
theorem Zea{m:Nat}{Pr:κ.F->Prop}{R:List (List κ.F)}(wd:Wid m R){i:Nat}(hi:i<R.length)(h:∀j<m,Pr (ent R i j)):∀x∈R.getD i [],Pr x:=by
  intro x hx
  obtain ⟨j,hj,rfl⟩:=Wg hx
  have l:=wd.get hi
  have:=h j ⋯
  unfold ent at this
  rw[Q3,Q2 hj] at this
  exact this
theorem Zgq{m:Nat}{Pr:κ.F->Prop}{R:List (List κ.F)}(wd:Wid m R)(h:AllR Pr R){i j:Nat}(hi:i<R.length)(hj:j<m):Pr (ent R i j):=by
  have l:=wd.get hi
  unfold ent
  rw[Q3,Q2 ⋯]
  refine h _ ?_ _ (Qf _)
  rw[ZaO (Q2 hi)]
  exact Qf hi
theorem ZkB{m:Nat}{R S:List (List κ.F)}(l:R.length=S.length)(w1:Wid m R)(w2:Wid m S)(h:∀i<R.length,∀j<m,ent R i j=ent S i j):R=S:=by
  apply List.ext_getElem l
  intro i h1 h2
  have a:=w1 _ (Qf h1)
  have b:=w2 _ (Qf h2)
  apply List.ext_getElem ⋯
  intro j h3 h4
  have:=h i h1 j ⋯
  unfold ent at this
  rw[ZaO (Q2 h1),ZaO (Q2 h2),Q3,Q2 h3,Q3,Q2 h4] at this
  exact this
theorem Znk{m:Nat}{R:List (List κ.F)}{a:Int}(wd:Wid m R)(ha:a.toNat<R.length)(ok:(Tn.scale (κ:=κ) a 1).ok R.length):doT (.scale a 1) R=R:=by
  refine ZkB (m:=m) (Zd9 _ _) (Zfh wd ok) wd λi hi j hj=>?_
  rw[ZbS ha]
  split
  · grind
  · rfl
theorem Znl{m:Nat}{R:List (List κ.F)}{a b:Int}(wd:Wid m R)(ok:(Tn.add (κ:=κ) a b 0).ok R.length):doT (.add a b 0) R=R:=by
  obtain ⟨⟨a0,a1⟩,⟨b0,b1⟩,ne⟩:=id ok
  refine ZkB (m:=m) (Zd9 _ _) (Zfh wd ok) wd λi hi j hj=>?_
  rw[Zgp wd ⋯ ⋯]
  split
  · grind
  · rfl
def QS(κ:KX)(D:Int)(a:Nat)(x:κ.F):Prop:=match κ with
  | .q=>∃X:Int,x=Rat.divInt X D/\Bits a X
  | .r _ _=>True
theorem QS.mono{D:Int}{a b:Nat}{x:κ.F}(h:QS κ D a x)(l:a<=b):QS κ D b x:=by
  cases κ with
  | r p hp=>exact trivial
  | q=>obtain ⟨X,e,hX⟩:=h; exact ⟨X,e,hX.up l⟩
theorem QS.mul{D E:Int}{a b:Nat}{x y:κ.F}(h:QS κ D a x)(g:QS κ E b y):QS κ (D*E) (a+b) (x*y):=by
  cases κ with
  | r p hp=>exact trivial
  | q =>
    obtain ⟨X,rfl,hX⟩:=h
    obtain ⟨Y,rfl,hY⟩:=g
    exact ⟨X*Y,Wo _ _,hX.times hY⟩
theorem QS.add{D:Int}(hD:0<D){a:Nat}{x y:κ.F}(h:QS κ D a x)(g:QS κ D a y):QS κ D (a+1) (x+y):=by
  cases κ with
  | r p hp=>exact trivial
  | q =>
    obtain ⟨X,rfl,hX⟩:=h
    obtain ⟨Y,rfl,hY⟩:=g
    refine ⟨X+Y,?_,hX.plus hY⟩
    show Rat.divInt X D+Rat.divInt Y D=_
    rw[Rat.divInt_add_divInt _ _ ⋯ ⋯,Qx (Ua (Qp hD hD)) ⋯,<-Int.add_mul,Qr]
theorem QS.neg{D:Int}{a:Nat}{x:κ.F}(h:QS κ D a x):QS κ D a (0-x):=by
  cases κ with
  | r p hp=>exact trivial
  | q =>
    obtain ⟨X,rfl,hX⟩:=h
    refine ⟨-X,?_,hX.le ⋯⟩
    have e:(0-Rat.divInt X D:Rat) = -Rat.divInt X D:=by grind
    exact e.trans (Rat.neg_divInt X D)
theorem QS.up{D E:Int}(hD:0<D)(hE:0<E){a e:Nat}{x:κ.F}(h:QS κ D a x)(bE:Bits e E):QS κ (D*E) (a+e) x:=by
  cases κ with
  | r p hp=>exact trivial
  | q =>
    obtain ⟨X,rfl,hX⟩:=h
    refine ⟨X*E,?_,hX.times bE⟩
    rw[Qx ⋯ (Ua (Qp hD hE)),Qr,Qo D E]
theorem QS.b1{D:Int}(hD:0<D){a:Nat}{x:κ.F}(h:QS κ D a x)(bD:Bits 4000 D)(ha:a<=1000000):B1 κ x:=by
  cases κ with
  | r p hp=>exact trivial
  | q =>
    obtain ⟨X,rfl,hX⟩:=h
    obtain ⟨z1,z2⟩:=Zcg X hD
    exact ⟨ZeH z2 (hX.up ha) (Zgi X hD),ZeH z1 bD (λz=>by omega)⟩
theorem QS.inv{D:Int}(hD:0<D){a d:Nat}(h1:1<=a){x:κ.F}(h:QS κ D a x)(bD:Bits d D)(h0:x≠0):∃L:Int,0<L/\Bits a L/\QS κ L d (Fd.inv x):=by
  cases κ with
  | r p hp=>exact ⟨1,∅,Bits.of (by show 1<_; exact Q7 (show 1<2^1 by decide) (Qd ∅ h1)),trivial⟩
  | q =>
    obtain ⟨X,rfl,hX⟩:=h
    have X0:X≠0:=λz=>by subst z; exact h0 (Rat.zero_divInt D)
    have key:∀Y L:Int,0<L->X*Y=D*L->(Fd.inv (Rat.divInt X D):Rat)=Rat.divInt Y L:=λY L hL e=>by
      refine (ZeL (α:=Rat) ?_).symm
      rw[Wo,e]
      have:(D*L:Int)≠0:=Ua (Qp hD hL)
      exact Rat.divInt_self' this
    rcases Int.lt_or_gt_of_ne X0 with c | c
    · refine ⟨-X,⋯,hX.le ⋯,-D,key (-D) (-X) ⋯ ?_,bD.le ⋯⟩
      rw[Ww,Ww,Qo]
    · exact ⟨X,c,hX,D,key D X c (Qo _ _),bD⟩
theorem Zou:QS κ 1 1 1:=by
  cases κ with
  | r p hp=>exact trivial
  | q=>exact ⟨1,by rfl,Bits.of ∅⟩
end
end My
namespace My
open PySem L2 PyProof.Rows
section
variable{κ:KX}
structure Ech (R:List (List κ.F)) (n c:Nat) (ls:List Nat) (x:κ.F):Prop where
  le:ls.length<=n
  lt:∀k<ls.length,ls.getD k 0<c
  inc:∀k k',k<k'->k'<ls.length->ls.getD k 0<ls.getD k' 0
  x0:x≠0
  col:∀k<ls.length,∀i<n,ent R i (ls.getD k 0)=if i=k then x else 0
  low:∀i,ls.length<=i->i<n->∀j<c,ent R i j=0
  pre:∀k<ls.length,∀j<ls.getD k 0,ent R k j=0
theorem Znm{R:List (List κ.F)}{n:Nat}:Ech R n 0 [] 1:=⟨Qh _,λk h=>by simp at h,λk k' _ h=>by simp at h,λz=>Fd.zne z.symm,λk h=>by simp at h,λi _ _ j hj=>by omega,λk h=>by simp at h⟩
theorem Ech.skip{R:List (List κ.F)}{n c:Nat}{ls:List Nat}{x:κ.F}(h:Ech R n c ls x)(z:∀i,ls.length<=i->i<n->ent R i c=0):Ech R n (c+1) ls x where
  le:=h.le
  lt:=λk hk=>by have:=h.lt k hk; omega
  inc:=h.inc
  x0:=h.x0
  col:=h.col
  low:=λi h1 h2 j hj=>by
    by_cases e:j=c
    · subst e; exact z i h1 h2
    · exact h.low i h1 h2 j ⋯
  pre:=h.pre
theorem Ech.swap{R:List (List κ.F)}{n c f:Nat}{ls:List Nat}{x:κ.F}(h:Ech R n c ls x)(hn:R.length=n)(h1:ls.length<=f)(h2:f<n):Ech (doT (.swap (ls.length:Int) (f:Int)) R) n c ls x:=by
  have e:=Zgo (R:=R) (a:=(ls.length:Int)) (b:=(f:Int)) (by rw[Q6]; omega) (by rw[Q6]; omega)
  simp only[Q6] at e
  refine ⟨h.le,h.lt,h.inc,h.x0,λk hk i hi=>?_,λi a b j hj=>?_,λk hk j hj=>?_⟩
  · rw[e]
    by_cases e1:i=f
    · rw[if_pos e1,h.col k hk _ ⋯,if_neg ⋯,if_neg ⋯]
    · rw[if_neg e1]
      by_cases e2:i=ls.length
      · rw[if_pos e2,h.col k hk _ h2,if_neg ⋯,if_neg ⋯]
      · rw[if_neg e2,h.col k hk i hi]
  · rw[e]
    by_cases e1:i=f
    · rw[if_pos e1]; exact h.low _ (Q4 _) ⋯ j hj
    · rw[if_neg e1]
      by_cases e2:i=ls.length
      · rw[if_pos e2]; exact h.low _ h1 h2 j hj
      · rw[if_neg e2]; exact h.low i a b j hj
  · rw[e,if_neg ⋯,if_neg ⋯]
    exact h.pre k hk j hj
noncomputable def ZkC(R:List (List κ.F))(l c:Nat)(x:κ.F)(i j:Nat):κ.F:=if i=l then ent R l j else Fd.inv x*(ent R l c*ent R i j+(0-ent R i c)*ent R l j)
theorem ZbE{ls:List Nat}{c k:Nat}(h:k<ls.length):(ls++[c]).getD k 0=ls.getD k 0:=by
  rw[Q3,Q3,Wi h]
theorem Zb2{ls:List Nat}{c:Nat}:(ls++[c]).getD ls.length 0=c:=by
  rw[Q3,Ws (Q4 _),Ud]; rfl
theorem Ech.pivot{R R':List (List κ.F)}{n c:Nat}{ls:List Nat}{x:κ.F}(h:Ech R n c ls x)(hl:ls.length<n)(h0:ent R ls.length c≠0)(e:∀i<n,∀j,ent R' i j=ZkC R ls.length c x i j):Ech R' n (c+1) (ls++[c]) (ent R ls.length c):=by
  have hx:=Fd.mul_inv x h.x0
  have ln:(ls++[c]).length=ls.length+1:=by simp
  refine ⟨⋯,λk hk=>?_,λk k' h1 h2=>?_,h0,λk hk i hi=>?_,λi a b j hj=>?_,λk hk j hj=>?_⟩
  · rcases Uv k ls.length with q | q
    · rw[ZbE q]; have:=h.lt k q; omega
    · have:k=ls.length:=by omega
      subst this
      rw[Zb2]; omega
  · have q:k<ls.length:=by omega
    rw[ZbE q]
    rcases Uv k' ls.length with q' | q'
    · rw[ZbE q']; exact h.inc k k' h1 q'
    · have:k'=ls.length:=by omega
      subst this
      rw[Zb2]; exact h.lt k q
  · rw[e i hi]
    unfold ZkC
    rcases Uv k ls.length with q | q
    · rw[ZbE q]
      have c1:=h.col k q ls.length hl
      rw[if_neg ⋯] at c1
      have c2:=h.col k q i hi
      by_cases e1:i=ls.length
      · rw[if_pos e1,c1,if_neg ⋯]
      · rw[if_neg e1,c1,c2]
        by_cases e2:i=k
        · rw[if_pos e2,if_pos e2]; grind
        · rw[if_neg e2,if_neg e2]; grind
    · have:k=ls.length:=by omega
      subst this
      rw[Zb2]
      by_cases e1:i=ls.length
      · rw[if_pos e1,if_pos e1]
      · rw[if_neg e1,if_neg e1]; grind
  · rw[e i b]
    unfold ZkC
    rw[if_neg ⋯]
    by_cases e1:j=c
    · subst e1; grind
    · have z1:=h.low i ⋯ b j ⋯
      have z2:=h.low ls.length (Q4 _) hl j ⋯
      rw[z1,z2]; grind
  · rw[e k ⋯]
    unfold ZkC
    rcases Uv k ls.length with q | q
    · rw[ZbE q] at hj
      have:=h.lt k q
      have z1:=h.pre k q j hj
      have z2:=h.low ls.length (Q4 _) hl j ⋯
      rw[if_neg ⋯,z1,z2]; grind
    · have:k=ls.length:=by omega
      subst this
      rw[Zb2] at hj
      rw[if_pos rfl]
      exact h.low ls.length (Q4 _) hl j hj
def dS:Nat->Nat | 0=>1 | 1=>3 | 2=>906 | _=>3614
def aS:Nat->Nat | 0=>900 | 1=>1802 | 2=>3606 | _=>7216
def dL:Nat->Nat | 0=>1 | k+1=>dS k
def aL:Nat->Nat | 0=>1 | k+1=>aS k
theorem Zov{k:Nat}(h:k<3):2*dS k+aL k<=dS (k+1)/\2*aS k+1+dL k<=aS (k+1)/\aS k+dS k+aL k<=aS (k+1)/\2*dS k<=4000/\aL k<=4000/\1<=aL k/\2*aS k+1<=1000000/\dL k<=1000000:=by
  match k,h with
  | 0,_=>decide
  | 1,_=>decide
  | 2,_=>decide
def Stg(κ:KX)(R:List (List κ.F))(k:Nat)(x:κ.F):Prop:=κ = .q->∃D D':Int,0<D/\Bits (dS k) D/\AllR (QS κ D (aS k)) R/\0<D'/\Bits (dL k) D'/\QS κ D' (aL k) x
structure PivB (x:κ.F) (PQ PN:κ.F->Prop):Prop where
  ent:∀y,PQ y->B1 κ y
  neg:∀y,PQ y->B1 κ (0-y)
  mul:∀h y,PQ h->PQ y->B1 κ (h*y)
  nml:∀z e,PQ z->PQ e->B1 κ ((0-z)*e)
  sum:∀h y z e,PQ h->PQ y->PQ z->PQ e->B1 κ (h*y+(0-z)*e)
  inv:B1 κ (Fd.inv x)
  new:∀h y z e,PQ h->PQ y->PQ z->PQ e->PN (Fd.inv x*(h*y+(0-z)*e))
  keep:∀y,PQ y->PN y
theorem ZnW{p:Nat}{hp:PrN p}{x:(KX.r p hp).F}:B1 (.r p hp) x:=trivial
theorem Znn{R:List (List κ.F)}{k:Nat}{x:κ.F}(h:Stg κ R k x)(x0:x≠0)(hk:κ = .q->k<3):∃PQ PN:κ.F->Prop,AllR PQ R/\PivB x PQ PN/\∀R' y,AllR PN R'->PQ y->Stg κ R' (k+1) y:=by
  cases κ with
  | r p hp =>
    refine ⟨λ_=>True,λ_=>True,λ_ _ _ _=>trivial,⟨λ_ _=>ZnW,λ_ _=>ZnW,λ_ _ _ _=>ZnW,λ_ _ _ _=>ZnW,λ_ _ _ _ _ _ _ _=>ZnW,ZnW,λ_ _ _ _ _ _ _ _=>trivial,λ_ _=>trivial⟩,λR' y _ _ z=>nomatch z⟩
  | q =>
    obtain ⟨n1,n2,n3,n4,n5,n6,n7,n8⟩:=Zov (hk rfl)
    obtain ⟨D,D',hD,bD,qR,hD',bD',qx⟩:=h rfl
    obtain ⟨L,hL,bL,qI⟩:=QS.inv hD' n6 qx bD' x0
    have hDD:0<D*D:=Qp hD hD
    have bDD:Bits (2*dS k) (D*D):=(bD.times bD).up ⋯
    have bDD4:Bits 4000 (D*D):=bDD.up n4
    have qm:∀h y:Rat,QS .q D (aS k) h->QS .q D (aS k) y->QS .q (D*D) (2*aS k) (h*y):=λh y a b=>(QS.mul (κ:=.q) a b).mono ⋯
    have qs:∀h y z e:Rat,QS .q D (aS k) h->QS .q D (aS k) y->QS .q D (aS k) z->QS .q D (aS k) e->QS .q (D*D) (2*aS k+1) (h*y+(0-z)*e):=λh y z e a b c d=>QS.add (κ:=.q) hDD (qm h y a b) (qm _ e (QS.neg (κ:=.q) c) d)
    refine ⟨QS .q D (aS k),QS .q (D*D*L) (aS (k+1)),qR,⟨λy a=>QS.b1 hD a (bD.up ⋯) ⋯,λy a=>QS.b1 hD (QS.neg (κ:=.q) a) (bD.up ⋯) ⋯,λh y a b=>QS.b1 hDD (qm h y a b) bDD4 ⋯,λz e a b=>QS.b1 hDD (qm _ e (QS.neg (κ:=.q) a) b) bDD4 ⋯,λh y z e a b c d=>QS.b1 hDD (qs h y z e a b c d) bDD4 ⋯,QS.b1 hL qI (bL.up n5) n8,λh y z e a b c d=>?_,λy a=>?_⟩,λR' y a b _=>?_⟩
    · have:=QS.mul (κ:=.q) qI (qs h y z e a b c d)
      rw[Qo L] at this
      exact this.mono ⋯
    · have:=QS.up (κ:=.q) hD (Qp hD hL) a (bD.times bL)
      rw[<-Qr] at this
      exact this.mono ⋯
    · exact ⟨D*D*L,D,Qp hDD hL,(bDD.times bL).up ⋯,a,hD,bD,b⟩
end
end My
namespace My
open PySem L2 PyProof.Rows
theorem Zjj{κ:KX}{H:Hp}{u v:V}{x y:κ.F}(hu:NR κ H u x)(hv:NR κ H v y):∃b,Znd H u v b/\(b=true↔x=y):=by
  cases κ with
  | q =>
    obtain ⟨a,rfl,ha⟩:=hu
    obtain ⟨c,rfl,hc⟩:=hv
    refine ⟨_,.inr ⟨a,c,_,_,_,_,rfl,rfl,ha,hc,rfl⟩,?_⟩
    rw[Bool.and_eq_true_iff,decide_eq_true_iff,decide_eq_true_iff]
    constructor
    · rintro ⟨e1,e2⟩
      exact Rat.ext e1 ⋯
    · intro e
      have e:x=y:=e
      subst e
      exact ⟨rfl,rfl⟩
  | r p hp =>
    have hu:u = .int x.val:=hu
    have hv:v = .int y.val:=hv
    refine ⟨_,.inl ⟨_,_,hu,hv,rfl⟩,?_⟩
    rw[decide_eq_true_iff]
    constructor
    · intro e; exact Fin.ext ⋯
    · intro e
      have e:x=y:=e
      subst e; rfl
def Tn.idle{κ:KX}:Tn κ->Prop
  | .swap _ _=>False
  | .scale _ c=>c=1
  | .add _ _ c=>c=0
theorem ZlL{κ:KX}{m:Nat}{t:Tn κ}{R:List (List κ.F)}(wd:Wid m R)(ok:t.ok R.length)(h:t.idle):doT t R=R:=by
  cases t with
  | swap i j=>exact absurd h id
  | scale i c =>
    have h:c=1:=h
    subst h
    exact Znk wd (by have:=ok.1; omega) ok
  | add i j c =>
    have h:c=0:=h
    subst h
    exact Znl wd ok
structure Wk (κ:KX) (Z:List Addr) (R0:List (List κ.F)) (m:Nat) (r u:Addr) (H:Hp) (R:List (List κ.F)) (ts:List (Tn κ)):Prop where
  rows:∃as:List Addr,H r=some (.lst (as.map V.ref))/\RowsX κ H as R/\∀z∈Z,z∉as
  turns:∃tvs:List V,H u=some (.lst tvs)/\AllG (TR κ H) tvs ts
  run:R=ZcJ ts R0
  ok:∀t∈ts,t.ok R0.length
  pre:∀(i:Nat) t,ts[i]?=some t->t.pre (ZcJ (ts.take i) R0)
  wid:Wid m R0
  ne:r≠u
  m7:m<=1000
  l3:ts.length<=400
  zr:r∈Z
  zu:u∈Z
  za:∀z∈Z,∃o,H z=some o
section
variable{κ:KX}{Z:List Addr}{R0 R:List (List κ.F)}{m:Nat}{r u:Addr}{H:Hp}{ts:List (Tn κ)}
theorem Wk.len(h:Wk κ Z R0 m r u H R ts):R.length=R0.length:=by rw[h.run,ZeI]
theorem Wk.wd(h:Wk κ Z R0 m r u H R ts):Wid m R:=by rw[h.run]; exact ZeK h.wid h.ok
theorem Wk.same{H':Hp}(h:Wk κ Z R0 m r u H R ts)(S:Same H H'):Wk κ Z R0 m r u H' R ts:=by
  obtain ⟨as,h1,h2,h3⟩:=h.rows
  obtain ⟨tvs,g1,g2⟩:=h.turns
  exact ⟨⟨as,S _ _ h1,h2.same S,h3⟩,⟨tvs,S _ _ g1,g2.mono λ_ _ n=>n.same S⟩,h.run,h.ok,h.pre,h.wid,h.ne,h.m7,h.l3,h.zr,h.zu,λz hz=>let ⟨o,e⟩:=h.za z hz; ⟨o,S _ _ e⟩⟩
theorem Wk.offL{H':Hp}{L:Addr}{ys zs:List V}(h:Wk κ Z R0 m r u H R ts)(zL:L∈Z)(n1:L≠r)(n2:L≠u)(hL:H L=some (.lst ys))(hL':H' L=some (.lst zs))(O:Off [L] H H'):Wk κ Z R0 m r u H' R ts:=by
  obtain ⟨as,h1,h2,h3⟩:=h.rows
  obtain ⟨tvs,g1,g2⟩:=h.turns
  refine ⟨⟨as,O _ _ (λz=>n1 (Q5.mp z).symm) h1,h2.off (h3 L zL) hL O,h3⟩,⟨tvs,O _ _ (λz=>n2 (Q5.mp z).symm) g1,g2.mono λ_ _ n=>n.off hL O⟩,h.run,h.ok,h.pre,h.wid,h.ne,h.m7,h.l3,h.zr,h.zu,λz hz=>?_⟩
  by_cases e:z=L
  · subst e; exact ⟨_,hL'⟩
  · obtain ⟨o,q⟩:=h.za z hz
    exact ⟨o,O _ _ (λw=>e (Q5.mp w)) q⟩
theorem Wk.ent(h:Wk κ Z R0 m r u H R ts){i j:Nat}(hi:i<R0.length)(hj:j<m):∃(as:List Addr) (a:Addr) (xs:List V) (v:V),H r=some (.lst (as.map V.ref))/\as.length=R0.length/\as[i]?=some a/\H a=some (.lst xs)/\xs[j]?=some v/\NR κ H v (My.ent R i j):=by
  obtain ⟨as,h1,h2,h3⟩:=h.rows
  obtain ⟨a,xs,v,e1,e2,e3,e4⟩:=h2.ent h.wd (by rw[h.len]; exact hi) hj
  exact ⟨as,a,xs,v,h1,by rw[h2.1,h.len],e1,e2,e3,e4⟩
theorem Wk.rl(h:Wk κ Z R0 m r u H R ts):∃as:List Addr,H r=some (.lst (as.map V.ref))/\as.length=R0.length:=by
  obtain ⟨as,h1,h2,h3⟩:=h.rows
  exact ⟨as,h1,by rw[h2.1,h.len]⟩
theorem Wk.ul(h:Wk κ Z R0 m r u H R ts):∃tvs:List V,H u=some (.lst tvs):=let ⟨tvs,g1,_⟩:=h.turns; ⟨tvs,g1⟩
end
theorem TR.off2{κ:KX}{H H':Hp}{r u:Addr}{ys zs:List V}{v:V}{x:Tn κ}(h:TR κ H v x)(hr:H r=some (.lst ys))(hu:H u=some (.lst zs))(O:Off [r,u] H H'):TR κ H' v x:=by
  have na:∀a ws,H a=some (.tup ws)->a∉[r,u]:=λa ws q m=>by
    rcases Q9.mp m with e | e
    · rw[e,hr] at q; cases q
    · rw[Q5.mp e,hu] at q; cases q
  have nn:∀w c,NR κ H w c->NR κ H' w c:=λw c n=>by
    cases κ with
    | q=>obtain ⟨a,e,n⟩:=n; exact ⟨a,e,O _ _ (na _ _ n) n⟩
    | r p hp=>exact n
  cases x with
  | swap i j=>obtain ⟨a,e,h⟩:=h; exact ⟨a,e,O _ _ (na _ _ h) h⟩
  | scale i c=>obtain ⟨a,w,e,h,n⟩:=h; exact ⟨a,w,e,O _ _ (na _ _ h) h,nn _ _ n⟩
  | add i j c=>obtain ⟨a,w,e,h,n⟩:=h; exact ⟨a,w,e,O _ _ (na _ _ h) h,nn _ _ n⟩
theorem NR.off2{κ:KX}{H H':Hp}{r u:Addr}{ys zs:List V}{v:V}{x:κ.F}(h:NR κ H v x)(hr:H r=some (.lst ys))(hu:H u=some (.lst zs))(O:Off [r,u] H H'):NR κ H' v x:=by
  cases κ with
  | q =>
    obtain ⟨a,e,n⟩:=h
    refine ⟨a,e,O _ _ (λm=>?_) n⟩
    rcases Q9.mp m with e | e
    · rw[e,hr] at n; cases n
    · rw[Q5.mp e,hu] at n; cases n
  | r p hp=>exact h
theorem KdX.off2{CF CR:Addr}{κ:KX}{H H':Hp}{s r u:Addr}{ys zs:List V}(h:KdX CF CR κ H s)(hr:H r=some (.lst ys))(hu:H u=some (.lst zs))(O:Off [r,u] H H'):KdX CF CR κ H' s:=by
  have key:∀C dx fs,H s=some (.ins C dx fs)->H' s=some (.ins C dx fs):=λC dx fs q=>O _ _ (λm=>by
    rcases Q9.mp m with e | e
    · rw[e,hr] at q; cases q
    · rw[Q5.mp e,hu] at q; cases q) q
  cases κ with
  | q=>obtain ⟨dx,h⟩:=h; exact ⟨dx,key _ _ _ h⟩
  | r p hp=>obtain ⟨dx,h⟩:=h; exact ⟨dx,key _ _ _ h⟩
inductive Zeb (CF CR:Addr) (vs:List V) (H:Hp) (Q:VK) (zE:XK):Prop
  | mk (κ:KX) (s:Addr) (tv:V) (t:Tn κ) (_:vs=[.ref s,tv]) (_:KdX CF CR κ H s) (_:TR κ H tv t) (_:∀H' (b:Bool),Same H H'->(b=true↔t.idle)->Q (.bl b) H'):Zeb CF CR vs H Q zE
inductive Zec (CF CR:Addr) (vs:List V) (H:Hp) (Q:VK) (zE:XK):Prop
  | mk (κ:KX) (s r u:Addr) (Z:List Addr) (R0:List (List κ.F)) (m:Nat) (R:List (List κ.F)) (ts:List (Tn κ)) (tv:V) (t:Tn κ) (_:vs=[.ref s,.ref r,.ref u,tv]) (_:KdX CF CR κ H s) (_:Wk κ Z R0 m r u H R ts) (_:ts.length<400) (_:TR κ H tv t) (_:t.ok R0.length) (_:t.pre R) (_:∀H' ts',Off [r,u] H H'->Wk κ Z R0 m r u H' (doT t R) ts'->ts'.length<=ts.length+1->Q .non H'):Zec CF CR vs H Q zE
def Zmp(κ:KX)(f:List κ.F)(A:Int):Prop:=match κ with
  | .q=>0<A/\(∀x∈f,((Rat.den x:Nat):Int) ∣ A)/\∀B:Int,(∀x∈f,((Rat.den x:Nat):Int) ∣ B)->A ∣ B
  | .r _ _=>A=1
def DvB(κ:KX)(B:Int)(x:κ.F):Prop:=match κ with
  | .q=>((Rat.den x:Nat):Int) ∣ B
  | .r _ _=>True
def ZhV(P:Program)(w:World)(K:PySem.W.Frag)(mg:Str->Option Value)(base:Heap)(CF CR:Addr):Prop :=
  ∀(κ:KX) (H:Hp) (s:Addr),KdX CF CR κ H s->∃C dx fs ps dvs sp,H s=some (.ins C dx fs)/\Cls K C/\HasM P w K mg base C "common_bottom" 2 ps dvs sp/\fs.lookup ("common_bottom" : Str)=none/\dvs=[] ∧
    ∀(r:Addr) (xs:List V) (f:List κ.F) (B:Int) (Q:VK),H r=some (.lst xs)->AllG (NR κ H) xs f->0<B->Bits 4000 B->(∀x∈f,DvB κ B x)->(∀A:Int,Zmp κ f A->Q (.int A) H)->sp [.ref s,.ref r] H Q E0
inductive ZbA (K:PySem.W.Frag) (vs:List V) (H:Hp) (Q:VK) (zE:XK):Prop
  | mk (s r:Addr) (xs:List V) (f:List Rat) (B:Int) (_:vs=[.ref s,.ref r]) (_:H r=some (.lst xs)) (_:AllG (NR .q H) xs f) (_:0<B) (_:Bits 4000 B) (_:(∀x∈f,((Rat.den x:Nat):Int) ∣ B)) (_:∀A:Int,Zmp .q f A->Q (.int A) H):ZbA K vs H Q zE
inductive Zed (vs:List V) (H:Hp) (Q:VK) (zE:XK):Prop
  | mk (s r:Addr) (_:vs=[.ref s,.ref r]) (_:Q (.int 1) H):Zed vs H Q zE
inductive ZbT (CF CR:Addr) (vs:List V) (H:Hp) (Q:VK) (zE:XK):Prop
  | mk (κ:KX) (s r u:Addr) (Z:List Addr) (R0:List (List κ.F)) (m:Nat) (R:List (List κ.F)) (ts:List (Tn κ)) (l c:Nat) (_:vs=[.ref s,.ref r,.int (l:Int),.int (c:Int)]) (_:KdX CF CR κ H s) (_:Wk κ Z R0 m r u H R ts) (_:c<m) (_:l<=R0.length) (_:R0.length<=1000) (_:∀f:Nat,l<=f->f<=R0.length->(f<R0.length->ent R f c≠0)->(∀i,l<=i->i<f->ent R i c=0)->Q (.int (f:Int)) H):ZbT CF CR vs H Q zE
theorem ZlM{b d:Int}(hb:0<b)(hd:0<d):0<b.fdiv (Int.gcd b d)*d/\b ∣ b.fdiv (Int.gcd b d)*d/\d ∣ b.fdiv (Int.gcd b d)*d/\∀B:Int,b ∣ B->d ∣ B->b.fdiv (Int.gcd b d)*d ∣ B:=by
  have hg:(Int.gcd b d:Int)≠0:=by have:=M3.gcd_ne (a:=b) (b:=d) ⋯; omega
  have gp:0<(Int.gcd b d:Int):=by omega
  obtain ⟨q,hq⟩:=Wx b d
  obtain ⟨e,he⟩:=W4 b d
  have eb:b.fdiv (Int.gcd b d)=q:=by
    rw[Int.fdiv_eq_ediv_of_nonneg _ ⋯]
    conv=>lhs; lhs; rw[hq]
    exact Int.mul_ediv_cancel_left q hg
  have hq0:0<q:=by
    rcases Int.lt_or_le 0 q with c | c
    · exact c
    · have:(Int.gcd b d:Int)*q<=0:=Int.mul_nonpos_of_nonneg_of_nonpos ⋯ c
      omega
  rw[eb]
  have eq:q*d=b*e:=by
    calc q*d=q*((Int.gcd b d:Int)*e):=by rw[<-he]
      _=(Int.gcd b d:Int)*q*e:=by rw[<-Qr,Qo q]
      _=b*e:=by rw[<-hq]
  have cop:Int.gcd q e=1:=by
    have h1:=Int.gcd_mul_left (Int.gcd b d:Int) q e
    rw[<-hq,<-he,Qy] at h1
    have h2:0<Int.gcd b d:=by omega
    have h3:Int.gcd b d*1=Int.gcd b d*Int.gcd q e:=by rw[Nat.mul_one]; exact h1
    exact (Nat.eq_of_mul_eq_mul_left h2 h3).symm
  refine ⟨Qp hq0 hd,⟨e,eq⟩,⟨q,Qo _ _⟩,?_⟩
  rintro B ⟨s,hs⟩ ⟨t,ht⟩
  have h5:q*s=e*t:=by
    have:(Int.gcd b d:Int)*(q*s)=(Int.gcd b d:Int)*(e*t):=by
      rw[<-Qr,<-Qr,<-hq,<-he,<-hs,<-ht]
    exact Int.eq_of_mul_eq_mul_left hg this
  have h6:q ∣ t:=ZhS (b:=e) ⟨s,h5.symm⟩ cop
  obtain ⟨z,hz⟩:=h6
  exact ⟨z,by rw[ht,hz,<-Qr,Qo d q]⟩
end My
namespace My
open PySem L2 PyProof.Rows
section
variable{P:Program}{w:World}{K:PySem.W.Frag}{mg:Str->Option Value}{base:Heap}{CF CR:Addr}
theorem Zgr:FnScope ["kind", "number", "row"] ["kind", "number", "row"] (Zah ZcR):=‹2›
theorem ZfB(h:Here K mg "scaled_row" ZcR) (mt:Zks P w K mg base CF CR "times" (λ_ x y=>x*y)):Has P w K mg base "scaled_row" 3 ["kind", "number", "row"] (Zbe CF CR):=by
  refine h.has (λf fd F=>F.binds λ_ _ _ _ _ _ us hl=>by obtain ⟨_,_,_,rfl⟩:=Zew hl; exact rfl) λf fd F=>F.ok Zgr (λvs H Q E h=>?_) (λcdv A outer s H vs Q E hr h=>?_)
  · obtain ⟨_,_,_,_,_,_,_,rfl,_⟩:=h
    rfl
  obtain ⟨κ,sk,r,cv,c,xs,f,rfl,hk,hc,hr',al,bc,bf,lf,k⟩:=h
  refine ⟨_,(Zae (Zal (ZaX ["each"] [(0, "kind"),(1, "number")] rfl (ZaC (pv 2)) (by exact λ_ _ _ _=>(Zar (i:=0) (show (["each", "kind", "number"]:List Str).Nodup by decide +kernel) rfl (Or.inl rfl))) (by exact λ_ _ _ _=>(ZeY ⟨rfl,rfl,rfl,rfl,rfl⟩ (pv 1) hr (Zaa (pv 2) (Zaa (pv 0) Zac)))) ⟨⟨rfl,rfl,Or.inl rfl⟩,⟨⟨rfl,rfl,Or.inl rfl⟩,trivial⟩⟩))),?_⟩
  refine ⟨_,rfl,r,rfl,⟨_,SqL.of hr'⟩,?_⟩
  have l:=al.1
  refine ZaL (K:=K) (a:=r) (xs:=xs) (λi ys H2=>Same H H2/\AllG (NR κ H2) ys ((f.take i).map (c * ·))) ⋯ ⟨Same.refl H,.nil⟩ (λi ys H2 _ q=>SqL.of (q.1 _ _ hr')) ?_ ?_
  · rintro i x ys H2 hx hl ⟨S,e⟩
    obtain ⟨y,hy,ny⟩:=al.get hx
    obtain ⟨C,dx,fs,ps,dvs,sp,h1,h2,h3,h4,rfl,h5⟩:=mt κ H2 sk (hk.same S)
    refine ⟨_,rfl,sk,C,dx,fs,ps,_,sp,rfl,h1,h2,h3,h4,_,rfl,_,rfl,h5 _ _ _ c y _ (Same.refl _) (hc.same S) (ny.same S) bc (bf y (Q8 hy)) λt H3 S3 nt=>?_⟩
    refine ⟨S.trans S3,?_⟩
    rw[Qq,hy,Qn]
    exact (e.mono λ_ _ n=>n.same S3).append (.one nt)
  · rintro ys H2 hl ⟨S,e⟩ D hD
    rw[l,Qz] at e
    exact k _ D ys (S.trans (Zag hD _)) (S.free hD) Zaf (e.mono λ_ _ n=>n.same (Zag hD _))
end
section
variable{P:Program}{w:World}{K:PySem.W.Frag}{mg:Str->Option Value}{base:Heap}{CF CR:Addr}
theorem ZhW:FnScope ["kind", "row", "other"] ["kind", "row", "other"] (Zah ZdZ):=‹2›
theorem Zhj(h:Here K mg "plus_row" ZdZ) (Tz:mg "zip" = none) (mp:Zks P w K mg base CF CR "plus" (λ_ x y=>x+y)):Has P w K mg base "plus_row" 3 ["kind", "row", "other"] (Zb1 CF CR):=by
  refine h.has (λf fd F=>F.binds λ_ _ _ _ _ _ us hl=>by obtain ⟨_,_,_,rfl⟩:=Zew hl; exact rfl) λf fd F=>F.ok ZhW (λvs H Q E h=>?_) (λcdv A outer s H vs Q E hr h=>?_)
  · obtain ⟨_,_,_,_,_,_,_,_,rfl,_⟩:=h
    rfl
  obtain ⟨κ,sk,r1,r2,xs,ys,f,g,rfl,hk,h1,h2,a1,a2,b1,b2,lf,k⟩:=h
  refine ⟨_,(Zae (Zal (ZaX ["left", "right"] [(0, "kind")] rfl (Zkc (by rfl) Tz (Zaa (pv 1) (Zaa (pv 2) Zac))) (by exact λ_ _ _ _=>(Zke (n:=2) K rfl rfl (Zc5 (Zar (i:=0) (show (["left", "right", "kind"]:List Str).Nodup by decide +kernel) rfl (Or.inl rfl)) (Zc5 (Zar (i:=1) (show (["left", "right", "kind"]:List Str).Nodup by decide +kernel) rfl (Or.inl rfl)) Zhy)))) (by exact λ_ _ _ _=>(ZeY ⟨rfl,rfl,rfl,rfl,rfl⟩ (pv 2) hr (Zaa (pv 0) (Zaa (pv 1) Zac)))) ⟨⟨rfl,rfl,Or.inl rfl⟩,trivial⟩))),?_⟩
  refine ⟨_,rfl,_,rfl,r1,r2,rfl,⟨_,SqL.of h1⟩,⟨_,SqL.of h2⟩,?_⟩
  have l1:=a1.1
  have l2:=a2.1
  refine Zhd (K:=K) (a:=r1) (b:=r2) (xs:=xs) (ys:=ys) (λi zs H2=>Same H H2/\AllG (NR κ H2) zs (List.zipWith (· + ·) (f.take i) (g.take i))) ⋯ ⟨Same.refl H,.nil⟩ (λi zs H2 q=>⟨SqL.of (q.1 _ _ h1),SqL.of (q.1 _ _ h2)⟩) ?_ ?_
  · rintro i x y T zs H2 hx hy hl nT ⟨S,e⟩
    obtain ⟨p,q,hp,hq,np,nq⟩:=a1.zip a2 hx hy
    have ST:=Zag nT (.tup [x,y])
    generalize upd H2 T (.tup [x,y])=H3 at *
    have S3:=S.trans ST
    obtain ⟨C,dx,fs,ps,dvs,sp,c1,c2,c3,c4,rfl,c5⟩:=mp κ H3 sk (hk.same S3)
    refine ⟨_,rfl,sk,C,dx,fs,ps,_,sp,rfl,c1,c2,c3,c4,_,rfl,_,rfl,c5 _ _ _ p q _ (Same.refl _) (np.same S3) (nq.same S3) (b1 p (Q8 hp)) (b2 q (Q8 hq)) λt H4 S4 nt=>?_⟩
    refine ⟨S3.trans S4,?_⟩
    rw[Qq,hp,Qq,hq]
    have lp:=(Qk.mp hp).1
    have lq:=(Qk.mp hq).1
    rw[show (some p).toList=[p] from rfl,show (some q).toList=[q] from rfl,List.zipWith_append (by rw[Qi,Qi]; omega)]
    exact (e.mono λ_ _ n=>n.same (ST.trans S4)).append (.one nt)
  · rintro zs H2 hl ⟨S,e⟩ D hD
    have ez:List.zipWith (· + ·) (f.take (min xs.length ys.length)) (g.take (min xs.length ys.length))=List.zipWith (· + ·) f g:=by
      rw[<-List.take_zipWith,Wy]
      rw[Uc]
      omega
    rw[ez] at e
    exact k _ D zs (S.trans (Zag hD _)) (S.free hD) Zaf (e.mono λ_ _ n=>n.same (Zag hD _))
end
section
variable{P:Program}{w:World}{K:PySem.W.Frag}{mg:Str->Option Value}{base:Heap}{CF CR:Addr}
theorem ZhX(kd:Kd K mg CF CR)(hF:HasM P w K mg base CF "is_nought" 2 ["self", "one"] [] (Zd7 K CF)) (hR:HasM P w K mg base CR "is_nought" 2 ["self", "one"] [] Zd8):Zku P w K mg base CF CR:=by
  intro κ H s hk
  cases κ with
  | q =>
    obtain ⟨dx,h⟩:=hk
    refine ⟨CF,dx,[],_,_,_,h,kd.clF,hF,rfl,rfl,λu x Q hu k=>?_⟩
    obtain ⟨a,rfl,hu⟩:=hu
    refine ⟨s,a,_,_,rfl,SqT.of hu,k _ ?_⟩
    rw[decide_eq_true_iff]
    exact Rat.num_eq_zero
  | r p hp =>
    obtain ⟨dx,h⟩:=hk
    refine ⟨CR,dx,fsR p,_,_,_,h,kd.clR,hR,Zdg _ ∅,rfl,λu x Q hu k=>?_⟩
    have hu:u = .int x.val:=hu
    subst hu
    refine ⟨s,_,rfl,k _ ?_⟩
    rw[decide_eq_true_iff]
    letI:=hp.nz
    have z:(0:Fin p).val=0:=by simp
    constructor
    · intro e
      exact Fin.ext (by rw[z]; omega)
    · intro e
      have e:x=(0:Fin p):=e
      rw[e,z]; rfl
end
section
variable{P:Program}{w:World}{K:PySem.W.Frag}{mg:Str->Option Value}{base:Heap}{CF CR cT:Addr}
theorem sc_make_turn:FnScope ["kind", "rows", "turn", "place", "kept"] ["kind", "rows", "turn"] (Zah Zdp):=‹2›
theorem Zhk(h:Here K mg "make_turn" Zdp) (h_scaled_row:Has P w K mg base "scaled_row" 3 ["kind", "number", "row"] (Zbe CF CR)) (h_plus_row:Has P w K mg base "plus_row" 3 ["kind", "row", "other"] (Zb1 CF CR)):Has P w K mg base "make_turn" 4 ["kind", "rows", "turn"] (ZcX CF CR):=by
  refine h.has (λf fd F=>F.binds λ_ _ _ _ _ _ us hl=>by obtain ⟨_,_,_,rfl⟩:=Zew hl; exact rfl) λf fd F=>F.ok sc_make_turn (λvs H Q E h=>?_) (λcdv A outer s H vs Q E hr h=>?_)
  · obtain ⟨_,_,_,_,_,_,_,rfl,_⟩:=h
    rfl
  obtain ⟨κ,sk,r,as,R,tv,t,rfl,hk,hR,rx,nr,l1000,ht,ok,pre,k⟩:=h
  have nd:=sc_make_turn.nd
  refine ⟨_,(Zab (Zaj (i:=3) nd rfl (Or.inl rfl) (Zam Zaq (pv 2) Zad (λ_ _=>rfl)))
    (Zae (ZaB (Zap Za9 (Zam Zaq (pv 2) Zad (λ_ _=>rfl)) ZbC (Zas _)) (Zab (Zaj (i:=4) nd rfl (Or.inl rfl) (Zam Zau (pv 1) (pv 3) (λ_ _=>rfl)))
      (Zab (Zes (Zam Zau (pv 1) (Zam Zaq (pv 2) Zad (λ_ _=>rfl)) (λ_ _=>rfl)) (Zer (pv 1) (pv 3) ZbY))
      (Zae (Zes (pv 4) (Zer (pv 1) (Zam Zaq (pv 2) Zad (λ_ _=>rfl)) ZbY))))) (Zae (ZaB (Zap Za9 (Zam Zaq (pv 2) Zad (λ_ _=>rfl)) ZbC (Zas _)) (Zae (Zes (Zan h_scaled_row hr (by rfl) (Zaa (pv 0) (Zaa (Zam Zaq (pv 2) Zad (λ_ _=>rfl)) (Zaa (Zam Zau (pv 1) (pv 3) (λ_ _=>rfl)) Zac)))) (Zer (pv 1) (pv 3) ZbY))) (Zae (Zes (Zan h_plus_row hr (by rfl) (Zaa (pv 0) (Zaa (Zam Zau (pv 1) (pv 3) (λ_ _=>rfl)) (Zaa (Zan h_scaled_row hr (by rfl) (Zaa (pv 0) (Zaa (Zam Zaq (pv 2) Zad (λ_ _=>rfl)) (Zaa (Zam Zau (pv 1) (Zam Zaq (pv 2) Zad (λ_ _=>rfl)) (λ_ _=>rfl)) Zac)))) Zac)))) (Zer (pv 1) (pv 3) ZbY)))))))),?_⟩
  have la:=rx.1
  have lm:(as.map V.ref).length=R.length:=by rw[Q1]; exact la
  cases t with
  | swap i j =>
    obtain ⟨a,rfl,ha⟩:=ht
    obtain ⟨⟨i0,i1⟩,⟨j0,j1⟩,ne⟩:=ok
    obtain ⟨b,xs,hb,hx,al⟩:=rx.get (i:=i.toNat) ⋯
    obtain ⟨c,ys,hc,hy,bl⟩:=rx.get (i:=j.toNat) ⋯
    refine ⟨_,rfl,a,_,1,_,rfl,rfl,SqT.of ha,rfl,?_⟩
    refine ⟨_,rfl,a,_,0,_,rfl,rfl,SqT.of ha,rfl,rfl,_,rfl,Zcy rfl ?_⟩
    refine ⟨_,rfl,_,rfl,r,_,_,_,rfl,rfl,SqL.of hR,Zfi i0 hb,?_⟩
    refine ⟨_,rfl,_,rfl,a,_,2,_,rfl,rfl,SqT.of ha,rfl,r,_,_,_,rfl,rfl,SqL.of hR,Zfi j0 hc,?_⟩
    refine ⟨_,rfl,_,rfl,r,_,_,_,rfl,rfl,hR,Zgj i0 (by rw[lm]; exact i1),?_⟩
    rw[Zcz]
    have nra:a≠r:=λz=>by rw[z,hR] at ha; cases ha
    refine ⟨_,rfl,_,rfl,_,rfl,a,_,2,_,rfl,rfl,SqT.of (by rw[Zav nra]; exact ha),rfl,r,_,_,_,rfl,rfl,Zaf,Zgj j0 (by rw[Q1,Qw,la]; exact j1),?_⟩
    rw[Zcz]
    have O:Off [r] H (upd (upd H r (.lst ((as.set i.toNat c).map V.ref))) r (.lst (((as.set i.toNat c).set j.toNat b).map V.ref))):=λx o n q=>by
      have nx:x≠r:=λz=>n (by rw[z]; exact Q5.mpr rfl)
      rw[Zav nx,Zav nx]; exact q
    have rx':=rx.off nr hR O
    obtain ⟨xs',hx',al'⟩:=rx'.2 i.toNat b _ hb (Q2 ⋯)
    obtain ⟨ys',hy',bl'⟩:=rx'.2 j.toNat c _ hc (Q2 ⋯)
    refine k _ ((as.set i.toNat c).set j.toNat b) O Zaf ?_ (λm=>nr (Ziz hb hc m)) (λndp=>Zjh ndp hb hc) (λx m => .inl (Ziz hb hc m))
    show RowsX κ _ _ ((R.set i.toNat (R.getD j.toNat [])).set j.toNat (R.getD i.toNat []))
    rw[ZaO (Q2 (show j.toNat<R.length by omega)),ZaO (Q2 (show i.toNat<R.length by omega))]
    exact (rx'.set _ hy' bl').set _ hx' al'
  | scale i c =>
    obtain ⟨a,u,rfl,ha,nu⟩:=ht
    obtain ⟨⟨i0,i1⟩,_⟩:=ok
    obtain ⟨b,xs,hb,hx,al⟩:=rx.get (i:=i.toNat) ⋯
    have eg:=ZaO (Q2 (show i.toNat<R.length by omega))
    obtain ⟨bc,bx⟩:=pre
    rw[eg] at bx
    refine ⟨_,rfl,a,_,1,_,rfl,rfl,SqT.of ha,rfl,?_⟩
    refine ⟨_,rfl,a,_,0,_,rfl,rfl,SqT.of ha,rfl,rfl,_,rfl,ZcW s21 ?_⟩
    refine ⟨_,rfl,a,_,0,_,rfl,rfl,SqT.of ha,rfl,rfl,_,rfl,Zcy rfl ?_⟩
    refine ⟨_,rfl,_,rfl,a,_,2,_,rfl,rfl,SqT.of ha,rfl,_,rfl,_,rfl,r,_,_,_,rfl,rfl,SqL.of hR,Zfi i0 hb,κ,sk,b,u,c,xs,_,rfl,hk,nu,hx,al,bc,bx,l1000 _ (Qf ⋯),λH1 D ys S1 nD hD bl=>?_⟩
    refine ⟨_,rfl,_,rfl,r,_,_,_,rfl,rfl,S1 _ _ hR,Zgj i0 (by rw[lm]; exact i1),?_⟩
    rw[Zcz]
    have O:Off [r] H (upd H1 r (.lst ((as.set i.toNat D).map V.ref))):=ZaH S1
    have O1:Off [r] H1 (upd H1 r (.lst ((as.set i.toNat D).map V.ref))):=ZaH (Same.refl H1)
    have nDr:D≠r:=λz=>by rw[z,hR] at nD; cases nD
    have nDa:D∉as:=λm=>by
      obtain ⟨n,hn,e⟩:=Wg m
      obtain ⟨zs,hz,_⟩:=rx.2 n D _ (by rw[<-e]; exact Q2 hn) (Q2 (show n<R.length by omega))
      rw[hz] at nD; cases nD
    refine k _ (as.set i.toNat D) O Zaf ?_ (λm=>?_) (λndp=>Zhg ndp nDa) (λx m=>?_)
    · show RowsX κ _ _ (R.set i.toNat ((R.getD i.toNat []).map (c * ·)))
      rw[eg]
      exact (rx.off nr hR O).set _ (by rw[Zav nDr]; exact hD) (bl.mono λ_ _ n=>n.off (S1 _ _ hR) O1)
    · rcases Wf m with m | z
      · exact nr m
      · exact nDr z.symm
    · rcases Wf m with m | rfl
      · exact .inl m
      · exact .inr nD
  | add i j c =>
    obtain ⟨a,u,rfl,ha,nu⟩:=ht
    obtain ⟨⟨i0,i1⟩,⟨j0,j1⟩,_⟩:=ok
    obtain ⟨b,xs,hb,hx,al⟩:=rx.get (i:=i.toNat) ⋯
    obtain ⟨e,zs,he,hz,el⟩:=rx.get (i:=j.toNat) ⋯
    have eg:=ZaO (Q2 (show i.toNat<R.length by omega))
    have eh:=ZaO (Q2 (show j.toNat<R.length by omega))
    obtain ⟨bc,bx,by'⟩:=pre
    rw[eg] at bx
    rw[eh] at by'
    refine ⟨_,rfl,a,_,1,_,rfl,rfl,SqT.of ha,rfl,?_⟩
    refine ⟨_,rfl,a,_,0,_,rfl,rfl,SqT.of ha,rfl,rfl,_,rfl,ZcW s31 ?_⟩
    refine ⟨_,rfl,a,_,0,_,rfl,rfl,SqT.of ha,rfl,rfl,_,rfl,ZcW s32 ?_⟩
    refine ⟨_,rfl,_,rfl,_,rfl,r,_,_,_,rfl,rfl,SqL.of hR,Zfi i0 hb,_,rfl,_,rfl,a,_,3,_,rfl,rfl,SqT.of ha,rfl,_,rfl,_,rfl,a,_,2,_,rfl,rfl,SqT.of ha,rfl,r,_,_,_,rfl,rfl,SqL.of hR,Zfi j0 he,κ,sk,e,u,c,zs,_,rfl,hk,nu,hz,el,bc,λy hy=>(by' y hy).1,l1000 _ (Qf ⋯),λH1 D1 ws S1 nD1 hD1 wl=>?_⟩
    refine ⟨κ,sk,b,D1,xs,ws,_,_,rfl,hk.same S1,S1 _ _ hx,hD1,al.mono λ_ _ n=>n.same S1,wl,bx,λy hy=>?_,l1000 _ (Qf ⋯),λH2 D ys S2 nD hD bl=>?_⟩
    · obtain ⟨z,hz',rfl⟩:=Ql.mp hy
      exact (by' z hz').2
    have S12:=S1.trans S2
    refine ⟨_,rfl,_,rfl,r,_,_,_,rfl,rfl,S12 _ _ hR,Zgj i0 (by rw[lm]; exact i1),?_⟩
    rw[Zcz]
    have O:Off [r] H (upd H2 r (.lst ((as.set i.toNat D).map V.ref))):=ZaH S12
    have O1:Off [r] H2 (upd H2 r (.lst ((as.set i.toNat D).map V.ref))):=ZaH (Same.refl H2)
    have nD0:H D=none:=S1.free nD
    have nDr:D≠r:=λz=>by rw[z,hR] at nD0; cases nD0
    have nDa:D∉as:=λm=>by
      obtain ⟨n,hn,e⟩:=Wg m
      obtain ⟨zs,hz,_⟩:=rx.2 n D _ (by rw[<-e]; exact Q2 hn) (Q2 (show n<R.length by omega))
      rw[hz] at nD0; cases nD0
    refine k _ (as.set i.toNat D) O Zaf ?_ (λm=>?_) (λndp=>Zhg ndp nDa) (λx m=>?_)
    · show RowsX κ _ _ (R.set i.toNat (List.zipWith (· + ·) (R.getD i.toNat []) ((R.getD j.toNat []).map (c * ·))))
      rw[eg,eh]
      exact (rx.off nr hR O).set _ (by rw[Zav nDr]; exact hD) (bl.mono λ_ _ n=>n.off (S12 _ _ hR) O1)
    · rcases Wf m with m | z
      · exact nr m
      · exact nDr z.symm
    · rcases Wf m with m | rfl
      · exact .inl m
      · exact .inr nD0
end
end My
namespace My
open PySem L2 PyProof.Rows
section
variable{P:Program}{w:World}{K:PySem.W.Frag}{mg:Str->Option Value}{base:Heap}{CF CR:Addr}
theorem Zjk:FnScope ["kind", "turn"] ["kind", "turn"] (Zah Ze1):=‹2›
theorem Zjl(h:Here K mg "is_idle" Ze1) (mn:ZcA P w K mg base CF CR) (nt:Zku P w K mg base CF CR):Has P w K mg base "is_idle" 4 ["kind", "turn"] (Zeb CF CR):=by
  refine h.has (λf fd F=>F.binds λ_ _ _ _ _ _ us hl=>by obtain ⟨_,_,rfl⟩:=ZdJ hl; exact rfl) λf fd F=>F.ok Zjk (λvs H Q E h=>?_) (λcdv A outer s H vs Q E hr h=>?_)
  · obtain ⟨_,_,_,_,rfl,_⟩:=h
    rfl
  obtain ⟨κ,sk,tv,t,rfl,hk,ht,k⟩:=h
  refine ⟨_,(Zab (ZaB (Zap Za9 (Zam Zaq (pv 1) Zad (λ_ _=>rfl)) ZbC (Zas _)) (Zae (Zal (Zbk (Zkg hr) (Zam Zaq (pv 1) Zad (λ_ _=>rfl)) (ZaS (pv 0) Zdl hr (Zaa Zad Zac)) (Zas _)))) Zat)
    (Zae (Zal (ZfO (Zbk Za9 (Zam Zaq (pv 1) Zad (λ_ _=>rfl)) ZbC (Zas _)) (ZfN (ZaZ (pv 0) hr (Zaa (Zam Zaq (pv 1) Zad (λ_ _=>rfl)) Zac))))))),?_⟩
  cases t with
  | scale i c =>
    obtain ⟨a,u,rfl,ha,nu⟩:=ht
    obtain ⟨C,dx,fs,ps,dvs,sp,c1,c2,c3,c4,rfl,c5⟩:=mn κ H sk hk
    refine ⟨_,rfl,a,_,0,_,rfl,rfl,SqT.of ha,rfl,rfl,_,rfl,Zcy rfl ?_⟩
    refine ⟨_,rfl,a,_,2,_,rfl,rfl,SqT.of ha,rfl,_,rfl,sk,C,dx,fs,ps,_,sp,rfl,c1,c2,c3,c4,c5 H 1 1 _ _ (Same.refl H) ZeD λv H1 S1 nv=>?_⟩
    obtain ⟨b,hb,eb⟩:=Zjj (nu.same S1) nv
    exact ⟨b,hb,k H1 b S1 eb⟩
  | swap i j =>
    obtain ⟨a,rfl,ha⟩:=ht
    refine ⟨_,rfl,a,_,0,_,rfl,rfl,SqT.of ha,rfl,rfl,_,rfl,ZcW s12 ?_⟩
    refine ⟨_,rfl,a,_,0,_,rfl,rfl,SqT.of ha,rfl,rfl,_,rfl,ZcW s13 ?_⟩
    exact k H _ (Same.refl H) ⟨λz=>(nomatch z),λz=>absurd z id⟩
  | add i j c =>
    obtain ⟨a,u,rfl,ha,nu⟩:=ht
    obtain ⟨C,dx,fs,ps,dvs,sp,c1,c2,c3,c4,rfl,c5⟩:=nt κ H sk hk
    refine ⟨_,rfl,a,_,0,_,rfl,rfl,SqT.of ha,rfl,rfl,_,rfl,ZcW s32 ?_⟩
    refine ⟨_,rfl,a,_,0,_,rfl,rfl,SqT.of ha,rfl,rfl,_,rfl,Zcy rfl ?_⟩
    exact ⟨_,rfl,sk,C,dx,fs,ps,_,sp,rfl,c1,c2,c3.mono ∅,c4,_,rfl,a,_,3,_,rfl,rfl,SqT.of ha,rfl,c5 u c _ nu λb hb=>k H b (Same.refl H) hb⟩
theorem Zno:FnScope ["kind", "rows", "turns", "turn"] ["kind", "rows", "turns", "turn"] (Zah Zki):=‹2›
theorem Znp(h:Here K mg "take" Zki) (h_is_idle:Has P w K mg base "is_idle" 4 ["kind", "turn"] (Zeb CF CR)) (h_make_turn:Has P w K mg base "make_turn" 4 ["kind", "rows", "turn"] (ZcX CF CR)):Has P w K mg base "take" 5 ["kind", "rows", "turns", "turn"] (Zec CF CR):=by
  refine h.has (λf fd F=>F.binds λ_ _ _ _ _ _ us hl=>by obtain ⟨_,_,_,_,rfl⟩:=ZnV hl; exact rfl) λf fd F=>F.ok Zno (λvs H Q E h=>?_) (λcdv A outer s H vs Q E hr h=>?_)
  · obtain ⟨_,_,_,_,_,_,_,_,_,_,_,rfl,_⟩:=h
    rfl
  obtain ⟨κ,sk,r,u,Z,R0,m,R,ts,tv,t,rfl,hk,wk,l4,ht,ok,pre,k⟩:=h
  refine ⟨_,(Zae (ZaB (ZbD (ZaY (Zan h_is_idle hr (by rfl) (Zaa (pv 0) (Zaa (pv 3) Zac))))) (Zab (ZaE (Zan h_make_turn hr (by rfl) (Zaa (pv 0) (Zaa (pv 1) (Zaa (pv 3) Zac)))))
      (Zae (ZaE (ZeC PySem.F.plainAttrs_list PySem.F.slot_list_append PySem.F.type_list_append Za3 (pv 2) (Zaa (pv 3) Zac))))) Zat)),?_⟩
  have lR:=wk.len
  refine ⟨_,rfl,_,rfl,κ,sk,tv,t,rfl,hk,ht,λH1 b S1 hb=>⟨_,rfl,?_⟩⟩
  have wk1:=wk.same S1
  cases b with
  | true =>
    refine Zc7 ?_
    have e:=ZlL wk.wd (by rw[lR]; exact ok) (hb.mp rfl)
    exact k H1 ts (λb o _ q=>S1 _ _ q) (by rw[e]; exact wk1) ⋯
  | false =>
    refine ZjY ?_
    obtain ⟨as,h1,h2,h3⟩:=wk1.rows
    obtain ⟨tvs,g1,g2⟩:=wk1.turns
    refine ⟨_,rfl,_,rfl,_,rfl,κ,sk,r,as,R,tv,t,rfl,hk.same S1,h1,h2,h3 r wk.zr,λf hf=>by rw[wk.wd f hf]; exact wk.m7,ht.same S1,by rw[lR]; exact ok,pre,λH2 as' O hR2 rx2 nr2 _ sub=>?_⟩
    have nu:u∉[r]:=λz=>wk.ne (Q5.mp z).symm
    have qu:=O _ _ nu g1
    have lt:=g2.1
    refine ⟨_,rfl,.inl ⟨rfl,_,SqL.of qu⟩,_,rfl,u,tvs,tv,rfl,rfl,qu,Q7 (show tvs.length<1000 by omega) ∅,?_⟩
    have nza:∀z∈Z,z∉as':=λz hz q=>by
      rcases sub z q with q | q
      · exact h3 z hz q
      · obtain ⟨o,e⟩:=wk1.za z hz
        rw[e] at q; cases q
    have nua:=nza u wk.zu
    have O2:Off [u] H2 (upd H2 u (.lst (tvs++[tv]))):=ZaH (Same.refl H2)
    have Oa:Off [r,u] H1 (upd H2 u (.lst (tvs++[tv]))):=λb o nb q=>by
      have n1:b∉[r]:=λz=>nb (by rw[Q5.mp z]; exact Wa)
      have n2:b∉[u]:=λz=>nb (by rw[Q5.mp z]; simp)
      exact O2 _ _ n2 (O _ _ n1 q)
    refine k _ (ts++[t]) (λb o nb q=>Oa b o nb (S1 _ _ q)) ⟨⟨as',?_,rx2.off nua qu O2,nza⟩,⟨tvs++[tv],Zaf,?_⟩,?_,?_,?_,wk.wid,wk.ne,wk.m7,?_,wk.zr,wk.zu,?_⟩ (by simp)
    · exact O2 _ _ (λz=>wk.ne (Q5.mp z)) hR2
    · exact (g2.mono λ_ _ n=>n.off2 h1 g1 Oa).append (.one ((ht.same S1).off2 h1 g1 Oa))
    · rw[Zhh,<-wk.run]
    · intro x hx
      rcases Qj.mp hx with hx | hx
      · exact wk.ok x hx
      · rw[Q5.mp hx]; exact ok
    · intro i x hx
      rw[List.getElem?_append] at hx
      split at hx
      · rename_i hi
        rw[List.take_append_of_le_length ⋯]
        exact wk.pre i x hx
      · rename_i hi
        have hi2:i=ts.length:=by
          cases q:i-ts.length with
          | zero=>omega
          | succ n=>rw[q] at hx; simp at hx
        subst hi2
        rw[Ud] at hx
        cases hx
        rw[List.take_left,<-wk.run]
        exact pre
    · rw[Qb]; show _+1<=400; omega
    · intro z hz
      by_cases e1:z=u
      · subst e1; exact ⟨_,Zaf⟩
      · by_cases e2:z=r
        · subst e2; exact ⟨_,O2 _ _ (λq=>wk.ne (Q5.mp q)) hR2⟩
        · obtain ⟨o,e⟩:=wk1.za z hz
          refine ⟨o,Oa _ _ (λq=>?_) e⟩
          rcases Q9.mp q with q | q
          · exact e2 q
          · exact e1 (Q5.mp q)
theorem sc_first_filled:FnScope ["kind", "rows", "start", "column", "place"] ["kind", "rows", "start", "column"] (Zah Zcb):=‹2›
theorem Zfl(h:Here K mg "first_filled" Zcb) (T:Nm mg) (nt:Zku P w K mg base CF CR):Has P w K mg base "first_filled" 3 ["kind", "rows", "start", "column"] (ZbT CF CR):=by
  refine h.has (λf fd F=>F.binds λ_ _ _ _ _ _ us hl=>by obtain ⟨_,_,_,_,rfl⟩:=ZnV hl; exact rfl) λf fd F=>F.ok sc_first_filled (λvs H Q E h=>?_) (λcdv A outer s H vs Q E hr h=>?_)
  · obtain ⟨_,_,_,_,_,_,_,_,_,_,_,rfl,_⟩:=h
    rfl
  obtain ⟨κ,sk,r,u,Z,R0,m,R,ts,l,c,rfl,hk,wk,cm,ln,n1000,k⟩:=h
  have nd:=sc_first_filled.nd
  refine ⟨_,(Zab (ZaI PassesOwn.never rfl (ZeO (by rfl) T.range (Zaa (pv 2) (Zaa (Zak Zai (by rfl) T.len boot_len (Zaa (pv 1) Zac)) Zac))) (Zar (i:=4) nd rfl (Or.inl rfl)) (Zae (ZaB (ZbD (ZaY (ZaZ (pv 0) hr (Zaa (Zam Zau (Zam Zau (pv 1) (pv 4) (λ_ _=>rfl)) (pv 3) (λ_ _=>rfl)) Zac)))) (Zae (Zal (pv 4))) Zat)))
    (Zae (Zal (Zak Zai (by rfl) T.len boot_len (Zaa (pv 1) Zac))))),?_⟩
  obtain ⟨as,hR,la⟩:=wk.rl
  obtain ⟨C,dx,fs,ps,dvs,sp,c1,c2,c3,c4,rfl,c5⟩:=nt κ H sk hk
  refine ⟨_,rfl,_,rfl,r,_,rfl,.inl (SqL.of hR),_,_,rfl,?_⟩
  rw[Q1,la]
  refine ⟨⟨⋯,⋯,⋯,⋯⟩,?_⟩
  rw[show ((R0.length:Int)-(l:Int)).toNat=R0.length-l by omega]
  refine ZaG (lo:=(l:Int)) (n:=R0.length-l) (λi σ H2=>∃z:Option V,σ=[some (.ref sk),some (.ref r),some (.int (l:Int)),some (.int (c:Int)),z]/\H2=H/\∀j,l<=j->j<l+i->ent R j c=0) ⟨_,rfl,rfl,λj a b=>by omega⟩ ?_ ?_
  · rintro i σ H2 hi ⟨z,rfl,rfl,hz⟩
    obtain ⟨as',a,xs,v,e1,e2,e3,e4,e5,e6⟩:=wk.ent (i:=l+i) (j:=c) ⋯ cm
    have ec:((l:Int)+(i:Int))=((l+i:Nat):Int):=by omega
    refine ⟨_,rfl,sk,C,dx,fs,ps,_,sp,rfl,c1,c2,c3,c4,_,rfl,_,rfl,r,_,_,_,rfl,rfl,SqL.of e1,(by rw[ec]; exact Zbi e3),_,rfl,a,_,_,_,rfl,rfl,SqL.of e4,ZaF e5,c5 v _ _ e6 λb hb=>⟨_,rfl,?_⟩⟩
    cases b with
    | false =>
      refine ZjY ⟨_,rfl,?_⟩
      show Q (V.int ((l:Int)+(i:Int))) _
      rw[ec]
      exact k (l+i) ⋯ ⋯ (λ_ z=>by have:=hb.mpr z; cases this) (λj a b=>hz j a b)
    | true =>
      refine Zc7 ⟨_,rfl,rfl,λj a b=>?_⟩
      by_cases e:j=l+i
      · rw[e]; exact hb.mp rfl
      · exact hz j a ⋯
  · rintro σ H2 ⟨z,rfl,rfl,hz⟩
    refine ⟨_,rfl,r,_,rfl,.inl (SqL.of hR),?_⟩
    rw[Q1,la]
    exact k R0.length ln (Q4 _) (λz=>by omega) (λi a b=>hz i a ⋯)
end
end My
namespace My
open PySem L2 PyProof.Rows
section
variable{κ:KX}
def QT(κ:KX)(R:List (List κ.F)):Prop:=κ = .q->(∀f∈R,f.length<=3)/\∃B:Int,0<B/\Bits 900 B/\AllR (QS κ B 900) R
theorem QT.get{R:List (List κ.F)}(h:QT κ R):∃B:Int,0<B/\Bits 900 B/\AllR (QS κ B 900) R:=by
  cases κ with
  | q=>exact (h rfl).2
  | r p hp=>exact ⟨1,∅,Bits.of (by exact Q7 (show 1<2^1 by decide) (Qd ∅ ∅)),λ_ _ _ _=>trivial⟩
theorem QS.dv{B:Int}(hB:0<B){a:Nat}{x:κ.F}(h:QS κ B a x):DvB κ B x:=by
  cases κ with
  | r p hp=>exact trivial
  | q =>
    obtain ⟨X,rfl,_⟩:=h
    exact (Zcg X hB).1
theorem ZhY{m:Nat}{R:List (List κ.F)}(wd:Wid m R){i j:Nat}(hi:i<R.length)(hj:j<m):ent R i j∈R.getD i []:=by
  have l:=wd.get hi
  unfold ent
  generalize R.getD i []=f at *
  rw[Q3,Q2 ⋯]
  exact Qf _
theorem Zps:K1 κ≠0:=λz=>Fd.zne z.symm
theorem Znq{f:List κ.F}{A B:Int}(hB:0<B)(bB:Bits 900 B)(hA:Zmp κ f A)(hf:∀x∈f,QS κ B 900 x):∃xA:κ.F,NumV κ A xA/\xA≠0/\B1 κ xA/\∀x∈f,QS κ 1 900 (xA*x):=by
  cases κ with
  | r p hp =>
    have hA:A=1:=hA
    subst hA
    exact ⟨K1 _,ZeD,Zps,trivial,λ_ _=>trivial⟩
  | q =>
    obtain ⟨A0,dv,mn⟩:=hA
    have hAB:A ∣ B:=mn B λx hx=>QS.dv hB (hf x hx)
    have bA:Bits 900 A:=bB.le (ZaV hAB ⋯)
    refine ⟨(A:Rat),⟨rfl,rfl⟩,λz=>?_,⟨bA.up ∅,Bits.of (by show 1<_; exact Q7 (show 1<2^1 by decide) (Qd ∅ ∅))⟩,λx hx=>?_⟩
    · have:Rat.num (A:Rat)=Rat.num (0:Rat):=congrArg Rat.num z
      have:A=0:=this
      omega
    · obtain ⟨X,e,bX⟩:=hf x hx
      obtain ⟨q,hq⟩:=dv x hx
      obtain ⟨C,hC⟩:=hAB
      have hd:=(Za6 x).pos
      refine ⟨Rat.num x*q,?_,bX.le ?_⟩
      · show (A:Rat)*x=_
        conv=>lhs; rw[<-Qv x,show (A:Rat)=Rat.divInt A 1 from (Qv (A:Rat)).symm]
        rw[Wo,Qx ⋯ ∅,U8,Uy,hq]
        grind
      · have e1:=Zfg X hB
        have e:x=Rat.divInt X B:=e
        rw[<-e] at e1
        have e2:X=Rat.num x*q*C:=by
          refine Int.eq_of_mul_eq_mul_right (a:=(Rat.den x:Int)) ⋯ ?_
          rw[<-e1,hC,hq]
          grind
        have C0:C≠0:=λz=>by rw[z,Int.mul_zero] at hC; omega
        rw[e2,Qt (Rat.num x*q) C]
        exact Nat.le_mul_of_pos_right _ ⋯
theorem Ech.ge{R:List (List κ.F)}{n c:Nat}{ls:List Nat}{x:κ.F}(h:Ech R n c ls x):∀k,k<ls.length->k<=ls.getD k 0
  | 0,_=>Qh _
  | k+1,hk=>by
    have a:=Ech.ge h k ⋯
    have b:=h.inc k (k+1) ⋯ hk
    omega
theorem Ech.lc{R:List (List κ.F)}{n c:Nat}{ls:List Nat}{x:κ.F}(h:Ech R n c ls x):ls.length<=c:=by
  by_cases z:ls.length=0
  · omega
  · have a:=h.ge (ls.length-1) ⋯
    have b:=h.lt (ls.length-1) ⋯
    omega
theorem QT.m3{R:List (List κ.F)}{m:Nat}(h:QT κ R)(wd:Wid m R)(n1:1<=R.length)(z:κ = .q):m<=3:=by
  have:=(h z).1 R[0] (Qf ⋯)
  rw[wd _ (Qf ⋯)] at this
  exact this
theorem Ech.scale{R R':List (List κ.F)}{n c:Nat}{ls:List Nat}{x:κ.F}(h:Ech R n c ls x)(e:∀i<n,∀j,ent R' i j=if i<ls.length then Fd.inv x*ent R i j else ent R i j):Ech R' n c ls 1:=by
  have hx:=Fd.mul_inv x h.x0
  have le:=h.le
  refine ⟨h.le,h.lt,h.inc,λz=>Fd.zne z.symm,λk hk i hi=>?_,λi a b j hj=>?_,λk hk j hj=>?_⟩
  · rw[e i hi,h.col k hk i hi]
    by_cases e1:i=k
    · rw[if_pos e1,if_pos e1,if_pos ⋯]; grind
    · rw[if_neg e1,if_neg e1]
      split
      · grind
      · rfl
  · rw[e i b,if_neg ⋯]; exact h.low i a b j hj
  · rw[e k ⋯,if_pos hk,h.pre k hk j hj]; grind
end
inductive ZbU (CF CR:Addr) (vs:List V) (H:Hp) (Q:VK) (zE:XK):Prop
  | mk (κ:KX) (s r u:Addr) (Z:List Addr) (R0:List (List κ.F)) (m:Nat) (_:vs=[.ref s,.ref r,.ref u]) (_:KdX CF CR κ H s) (_:Wk κ Z R0 m r u H R0 []) (_:QT κ R0) (_:R0.length<=13) (_:∀H' R' ts',Off [r,u] H H'->Wk κ Z R0 m r u H' R' ts'->ts'.length<=R0.length->Stg κ R' 0 1->Q .non H'):ZbU CF CR vs H Q zE
inductive ZbV (CF CR:Addr) (vs:List V) (H:Hp) (Q:VK) (zE:XK):Prop
  | mk (κ:KX) (s r u:Addr) (Z:List Addr) (R0:List (List κ.F)) (m:Nat) (R:List (List κ.F)) (ts:List (Tn κ)) (l c:Nat) (lv:V) (x:κ.F) (PQ PN:κ.F->Prop) (_:vs=[.ref s,.ref r,.ref u,.int (l:Int),.int (c:Int),lv]) (_:KdX CF CR κ H s) (_:Wk κ Z R0 m r u H R ts) (_:l<R0.length) (_:c<m) (_:NR κ H lv x) (_:x≠0) (_:ent R l c≠0) (_:AllR PQ R) (_:PivB x PQ PN) (_:R0.length<=13) (_:ts.length+3*R0.length<=400) (_:∀H' R' ts',Off [r,u] H H'->Wk κ Z R0 m r u H' R' ts'->(∀i<R0.length,∀j,ent R' i j=ZkC R l c x i j)->ts'.length<=ts.length+3*R0.length->Q .non H'):ZbV CF CR vs H Q zE
inductive Zee (CF CR:Addr) (vs:List V) (H:Hp) (Q:VK) (zE:XK):Prop
  | mk (κ:KX) (s tb:Addr) (rs:List Addr) (R0:List (List κ.F)) (m:Nat) (_:vs=[.ref s,.ref tb]) (_:KdX CF CR κ H s) (_:H tb=some (.lst (rs.map V.ref))) (_:RowsX κ H rs R0) (_:Wid m R0) (_:1<=R0.length) (_:R0.length<=13) (_:m<=7) (_:QT κ R0) (_:∀(H':Hp) (t r u L:Addr) (Z:List Addr) (v:V) (R':List (List κ.F)) (ts:List (Tn κ)) (ls:List Nat) (x:κ.F),Same H H'->H' t=some (.tup [.ref r,.ref u,.ref L,v])->H r=none->H u=none->H L=none->Wk κ Z R0 m r u H' R' ts->L∈Z->L≠r->L≠u->H' L=some (.lst (ls.map λ(i:Nat)=>V.int (i:Int)))->NR κ H' v x->Ech R' R0.length m ls x->Stg κ R' ls.length x->ts.length<=300->Q (.ref t) H'):Zee CF CR vs H Q zE
inductive Zgs (CF CR:Addr) (vs:List V) (H:Hp) (Q:VK) (zE:XK):Prop
  | mk (κ:KX) (s tb:Addr) (rs:List Addr) (R0:List (List κ.F)) (m:Nat) (_:vs=[.ref s,.ref tb]) (_:KdX CF CR κ H s) (_:H tb=some (.lst (rs.map V.ref))) (_:RowsX κ H rs R0) (_:Wid m R0) (_:1<=R0.length) (_:R0.length<=13) (_:m<=7) (_:QT κ R0) (_:∀(H':Hp) (t D u L:Addr) (rs':List Addr) (tvs:List V) (ts:List (Tn κ)) (ls:List Nat),Same H H'->H' t=some (.tup [.ref D,.ref u,.ref L])->H' D=some (.lst (rs'.map V.ref))->RowsX κ H' rs' (ZcJ ts R0)->H' u=some (.lst tvs)->AllG (TR κ H') tvs ts->H' L=some (.lst (ls.map λ(i:Nat)=>V.int (i:Int)))->(∀t∈ts,t.ok R0.length)->(∀(i:Nat) t,ts[i]?=some t->t.pre (ZcJ (ts.take i) R0))->ts.length<=320->Ech (ZcJ ts R0) R0.length m ls 1->H D=none->H u=none->H L=none->(∀a∈rs',H a=none)->rs'.Nodup->(∀a∈rs',a≠D/\a≠u/\a≠L)->D≠u->D≠L->u≠L->Q (.ref t) H'):Zgs CF CR vs H Q zE
end My
namespace My
theorem ZhZ{α:Type}[Fd α]{x:α}(h:x≠0):Fd.inv x≠0:=λz=>by
  have:=Fd.mul_inv x h
  rw[z] at this
  have e:x*(0:α)=0:=by grind
  rw[e] at this
  exact Fd.zne this
end My
namespace My
open PySem L2 PyProof.Rows
theorem Zow{κ:KX}{R:List (List κ.F)}{k:Nat}{x:κ.F}(h:Stg κ R k x)(x0:x≠0)(hk:κ = .q->k<=3):B1 κ (Fd.inv x)/\AllR (B1 κ) R:=by
  cases κ with
  | r p hp=>exact ⟨trivial,λ_ _ _ _=>trivial⟩
  | q =>
    obtain ⟨D,D',hD,bD,qR,hD',bD',qx⟩:=h rfl
    have nums:dS k<=4000/\aS k<=1000000/\aL k<=4000/\1<=aL k/\dL k<=1000000:=by
      have hk:=hk rfl
      match k,hk with
      | 0,_=>decide
      | 1,_=>decide
      | 2,_=>decide
      | 3,_=>decide
    obtain ⟨n1,n2,n3,n4,n5⟩:=nums
    obtain ⟨L,hL,bL,qI⟩:=QS.inv hD' n4 qx bD' x0
    exact ⟨QS.b1 hL qI (bL.up n3) n5,λf hf y hy=>QS.b1 hD (qR f hf y hy) (bD.up n1) n2⟩
theorem Stg.swap{κ:KX}{R:List (List κ.F)}{k:Nat}{x:κ.F}{a b:Int}(h:Stg κ R k x):Stg κ (doT (.swap a b) R) k x:=λz=>by
  obtain ⟨D,D',hD,bD,qR,r⟩:=h z
  exact ⟨D,D',hD,bD,(qR.set (qR.getD _)).set (qR.getD _),r⟩
end My
namespace My
open PySem L2 PyProof.Rows
theorem Zox{C C' G X:Hp->Prop}(h:(∀H,C' H->G H)->∀H,C H->X H)(hG:∀H,C' H->G H):∀H,C H->X H:=h hG
end My
namespace My
open PySem L2 PyProof.Rows
section
variable{P:Program}{w:World}{K:PySem.W.Frag}{mg:Str->Option Value}{base:Heap}{CF CR:Addr}
theorem sc_Fractions_common_bottom:FnScope ["self", "some", "bottom", "one"] ["self", "some"] (Zah ZaN):=‹2›
theorem Zh0(h:HereM K CF "common_bottom" "Fractions.common_bottom" ZaN) (h_divisor:Has P w K mg base "divisor" 1 ["one", "other"] ZaP):HasM P w K mg base CF "common_bottom" 2 ["self", "some"] [] (ZbA K):=by
  refine h.hasM (λf fd F=>F.binds λ_ _ _ _ _ _ us hl=>by obtain ⟨_,_,rfl⟩:=ZdJ hl; exact rfl) λf fd F=>F.ok sc_Fractions_common_bottom (λvs H Q E h=>?_) (λcdv A outer s H vs Q E hr h=>?_)
  · obtain ⟨_,_,_,_,_,rfl,_⟩:=h
    rfl
  obtain ⟨sf,r,xs,f,B,rfl,hr1,al,hB,bB,dvB,k⟩:=h
  have nd:=sc_Fractions_common_bottom.nd
  refine ⟨_,(Zab (Zaj (i:=2) nd rfl (Or.inl rfl) Zad)
    (Zab (ZaI PassesOwn.never rfl (ZaC (pv 1)) (Zar (i:=3) nd rfl (Or.inl rfl)) (Zae (ZaB (Zap ZeB (Zao Za1 (pv 2) (Zam Zaq (pv 3) Zad (λ_ _=>rfl))) Zad (Zas _)) (Zae (Zaj (i:=2) nd rfl (Or.inl rfl) (Zao ZaA (Zao ZbP (pv 2) (Zan h_divisor hr (by rfl) (Zaa (pv 2) (Zaa (Zam Zaq (pv 3) Zad (λ_ _=>rfl)) Zac)))) (Zam Zaq (pv 3) Zad (λ_ _=>rfl))))) Zat)))
    (Zae (Zal (pv 2))))),?_⟩
  have la:=al.1
  refine ⟨_,rfl,r,rfl,⟨_,SqL.of hr1⟩,?_⟩
  refine Za8 (xs:=xs) (λi σ H2=>∃(A:Int) (z:Option V),σ=[some (.ref sf),some (.ref r),some (.int A),z]/\H2=H/\Zmp .q (f.take i) A) ⟨1,none,rfl,rfl,∅,λx hx=>by simp at hx,λB _=>Int.one_dvd _⟩ ?_ ?_ ?_
  · rintro i σ H2-⟨A,z,rfl,rfl,-⟩
    exact SqL.of hr1
  · rintro i v σ H2 hv ⟨A,z,rfl,rfl,hA,dv,mn⟩
    obtain ⟨x,hx,a,rfl,ha⟩:=al.get hv
    have hd:=(Za6 x).pos
    have mx:=Q8 hx
    have hAB:A ∣ B:=mn B λy hy=>dvB y (Wl hy)
    have bA:Bits 4000 A:=bB.le (ZaV hAB ⋯)
    have bd:Bits 4000 (Rat.den x:Int):=bB.le (ZaV (dvB x mx) ⋯)
    have tk:f.take (i+1)=f.take i++[x]:=by rw[Qq,hx]; rfl
    refine ⟨_,rfl,_,rfl,a,_,1,_,rfl,rfl,SqT.of ha,rfl,_,_,rfl,rfl,(show (Rat.den x:Int)≠0 by omega),rfl,_,rfl,?_⟩
    refine ZcL (λz1=>?_) (λz1=>?_)
    · obtain ⟨p1,d1,d2,lm⟩:=ZlM hA hd
      have g0:(Int.gcd A (Rat.den x:Int):Int)≠0:=by have:=M3.gcd_ne (a:=A) (b:=(Rat.den x:Int)) ⋯; omega
      have gb:Bits 4000 (Int.gcd A (Rat.den x:Int):Int):=bA.le (ZaV (Wx A (Rat.den x:Int)) ⋯)
      have fb:=M3.fdiv_le (Wx A (Rat.den x:Int)) g0
      refine ⟨_,rfl,_,rfl,_,rfl,a,_,1,_,rfl,rfl,SqT.of ha,rfl,A,_,rfl,_,_,rfl,rfl,⟨g0,gb⟩,_,rfl,a,_,1,_,rfl,rfl,SqT.of ha,rfl,_,_,rfl,rfl,Bits.mulG ((bA.le fb).up ∅) bd,?_⟩
      refine ⟨_,_,rfl,rfl,p1,λy hy=>?_,λB' hB'=>?_⟩
      · rw[tk] at hy
        rcases Qj.mp hy with q | q
        · exact Int.dvd_trans (dv y q) d1
        · rw[Q5.mp q]; exact d2
      · rw[tk] at hB'
        exact lm B' (mn B' λy hy=>hB' y (Qj.mpr (.inl hy))) (hB' x (Qj.mpr (.inr (Q5.mpr rfl))))
    · refine ⟨A,_,rfl,rfl,hA,λy hy=>?_,λB' hB'=>?_⟩
      · rw[tk] at hy
        rcases Qj.mp hy with q | q
        · exact dv y q
        · rw[Q5.mp q]
          have z2:A.fmod (Rat.den x:Int)=0:=z1
          rw[W5 _ ⋯] at z2
          exact Int.dvd_of_emod_eq_zero z2
      · rw[tk] at hB'
        exact mn B' λy hy=>hB' y (Qj.mpr (.inl hy))
  · rintro σ H2 ⟨A,z,rfl,rfl,hA⟩
    rw[la,Qz] at hA
    exact ⟨_,rfl,k A hA⟩
theorem ZcY:FnScope ["self", "some"] ["self", "some"] (Zah Zbb):=‹2›
theorem Zjm(h:HereM K CR "common_bottom" "Kind.common_bottom" Zbb):HasM P w K mg base CR "common_bottom" 1 ["self", "some"] [] Zed:=by
  refine h.hasM (λf fd F=>F.binds λ_ _ _ _ _ _ us hl=>by obtain ⟨_,_,rfl⟩:=ZdJ hl; exact rfl) λf fd F=>F.ok ZcY (λvs H Q E h=>?_) (λcdv A outer s H vs Q E hr h=>?_)
  · obtain ⟨_,_,rfl,_⟩:=h
    rfl
  obtain ⟨sf,r,rfl,k⟩:=h
  exact ⟨_,(Zae (Zal Zad)),k⟩
theorem Zh1(kd:Kd K mg CF CR)(hF:HasM P w K mg base CF "common_bottom" 2 ["self", "some"] [] (ZbA K)) (hR:HasM P w K mg base CR "common_bottom" 2 ["self", "some"] [] Zed):ZhV P w K mg base CF CR:=by
  intro κ H s hk
  cases κ with
  | q =>
    obtain ⟨dx,h⟩:=hk
    exact ⟨CF,dx,[],_,_,_,h,kd.clF,hF,rfl,rfl,λr xs f B Q hr al hB bB dv k=>⟨s,r,xs,f,B,rfl,hr,al,hB,bB,dv,k⟩⟩
  | r p hp =>
    obtain ⟨dx,h⟩:=hk
    exact ⟨CR,dx,fsR p,_,_,_,h,kd.clR,hR,Zdg _ ∅,rfl,λr xs f B Q hr al hB bB dv k=>⟨s,r,rfl,k 1 rfl⟩⟩
theorem sc_take_bottoms:FnScope ["kind", "rows", "turns", "place"] ["kind", "rows", "turns"] (Zah Zca):=‹2›
theorem Zfm(h:Here K mg "take_bottoms" Zca) (T:Nm mg) (mn:ZcA P w K mg base CF CR) (mb:ZhV P w K mg base CF CR) (h_take:Has P w K mg base "take" 5 ["kind", "rows", "turns", "turn"] (Zec CF CR)):Has P w K mg base "take_bottoms" 6 ["kind", "rows", "turns"] (ZbU CF CR):=by
  refine h.has (λf fd F=>F.binds λ_ _ _ _ _ _ us hl=>by obtain ⟨_,_,_,rfl⟩:=Zew hl; exact rfl) λf fd F=>F.ok sc_take_bottoms (λvs H Q E h=>?_) (λcdv A outer s H vs Q E hr h=>?_)
  · obtain ⟨_,_,_,_,_,_,_,rfl,_⟩:=h
    rfl
  obtain ⟨κ,sk,r,u,Z,R0,m,rfl,hk,wk,qt,n7,k⟩:=h
  have nd:=sc_take_bottoms.nd
  refine ⟨_,(Zae (ZaI PassesOwn.never rfl (Zay (by rfl) T.range (Zaa (Zak Zai (by rfl) T.len boot_len (Zaa (pv 1) Zac)) Zac)) (Zar (i:=3) nd rfl (Or.inl rfl)) (Zae (ZaE (Zan h_take hr (by rfl) (Zaa (pv 0) (Zaa (pv 1) (Zaa (pv 2) (Zaa (Za2 (Zaa ZbC (Zaa (pv 3) (Zaa (ZaS (pv 0) Zdl hr (Zaa (ZaZ (pv 0) hr (Zaa (Zam Zau (pv 1) (pv 3) (λ_ _=>rfl)) Zac)) Zac)) Zac)))) Zac))))))))),?_⟩
  obtain ⟨B,hB,bB,qB⟩:=qt.get
  obtain ⟨as,hR,la⟩:=wk.rl
  obtain ⟨tvs,hU⟩:=wk.ul
  refine ⟨_,rfl,r,_,rfl,.inl (SqL.of hR),_,rfl,?_⟩
  rw[Q1,la]
  refine ⟨⋯,⋯,?_⟩
  rw[Q6]
  refine ZaG (lo:=0) (n:=R0.length) (λi σ H2=>∃(z:Option V) (R:List (List κ.F)) (ts:List (Tn κ)),σ=[some (.ref sk),some (.ref r),some (.ref u),z]/\Off [r,u] H H2/\Wk κ Z R0 m r u H2 R ts/\ts.length<=i/\∀i'<R0.length,∀j<m,(i'<i->QS κ 1 900 (ent R i' j))/\(i<=i'->QS κ B 900 (ent R i' j))) ⟨_,R0,[],rfl,λ_ _ _ q=>q,wk,Q4 _,λi' hi j hj=>⟨λq=>by omega,λ_=>Zgq wk.wid qB hi hj⟩⟩ ?_ ?_
  · rintro i σ H2 hi ⟨z,R,ts,rfl,O,wk2,lt,qs⟩
    have hk2:=hk.off2 hR hU O
    obtain ⟨as2,h1,h2,h3⟩:=wk2.rows
    have lR:=wk2.len
    obtain ⟨a,xs,ea,hx,al⟩:=h2.get (i:=i) ⋯
    have eg:R.getD i []=R[i]'⋯:=ZaO (Q2 ⋯)
    rw[<-eg] at al
    have qrow:=Zea (Pr:=QS κ B 900) wk2.wd (i:=i) ⋯ (λj hj=>(qs i ⋯ j hj).2 (Q4 _))
    obtain ⟨C,dx,fs,ps,dvs,sp,c1,c2,c3,c4,rfl,c5⟩:=mn κ H2 sk hk2
    obtain ⟨C',dx',fs',ps',dvs',sp',d1,d2,d3,d4,rfl,d5⟩:=mb κ H2 sk hk2
    refine ⟨_,rfl,_,rfl,_,rfl,_,rfl,_,rfl,sk,C,dx,fs,ps,_,sp,rfl,c1,c2,c3.mono ∅,c4,_,rfl,sk,C',dx',fs',ps',_,sp',rfl,d1,d2,d3.mono ∅,d4,_,rfl,_,rfl,r,_,_,_,rfl,rfl,SqL.of h1,(by rw[Qc]; exact Zbi ea),d5 a xs _ B _ hx al hB (bB.up ∅) (λx hx=>QS.dv hB (qrow x hx)) λA hA=>?_⟩
    obtain ⟨xA,nv,x0,b1,qA⟩:=Znq hB bB hA qrow
    refine c5 H2 A xA _ _ (Same.refl _) nv λv H3 S3 nrv=>?_
    refine ⟨(by show 3<=sizeLine; decide),λtt nt=>?_⟩
    have S4:=Zag nt (.tup [.str "scale", .int (0+(i:Int)),v])
    have q4:=Zaf (H:=H3) (a:=tt) (o:=.tup [.str "scale", .int (0+(i:Int)),v])
    generalize upd H3 tt (.tup [.str "scale", .int (0+(i:Int)),v])=H4 at *
    have S24:=S3.trans S4
    rw[Qc] at q4
    refine ⟨κ,sk,r,u,Z,R0,m,R,ts,.ref tt,.scale (i:Int) xA,rfl,hk2.same S24,wk2.same S24,⋯,⟨tt,v,rfl,q4,nrv.same S4⟩,⟨⟨⋯,⋯⟩,x0⟩,⟨b1,λx hx=>QS.b1 hB (qrow x hx) (bB.up ∅) ∅⟩,λH5 ts' O5 wk5 l5=>?_⟩
    refine ⟨_,_,ts',rfl,λb o nb q=>O5 b o nb (S24 _ _ (O b o nb q)),wk5,⋯,λi' hi' j hj=>?_⟩
    rw[ZbS (by rw[Q6]; omega),Q6]
    by_cases e:i'=i
    · rw[if_pos e]
      refine ⟨λ_=>?_,λq=>by omega⟩
      subst e
      exact qA _ (ZhY wk2.wd ⋯ hj)
    · rw[if_neg e]
      exact ⟨λq=>(qs i' hi' j hj).1 ⋯,λq=>(qs i' hi' j hj).2 ⋯⟩
  · rintro σ H2 ⟨z,R,ts,rfl,O,wk2,lt,qs⟩
    refine k H2 R ts O wk2 lt λ_=>?_
    refine ⟨1,1,∅,Bits.of ∅,ZkA wk2.wd λi hi j hj=>(qs i (by rw[<-wk2.len]; exact hi) j hj).1 (by rw[<-wk2.len]; exact hi),∅,Bits.of ∅,Zou⟩
end
end My
namespace My
open PySem L2 PyProof.Rows
section
variable{P:Program}{w:World}{K:PySem.W.Frag}{mg:Str->Option Value}{base:Heap}{CF CR:Addr}
theorem Zqq{us:List Value}(h:us.length=6):∃a b c d e f,us=[a,b,c,d,e,f]:=match us,h with | [a,b,c,d,e,f],_=>⟨a,b,c,d,e,f,rfl⟩
theorem sc_empty_column:FnScope ["kind", "rows", "turns", "lead", "column", "last", "head", "back", "place", "less"] ["kind", "rows", "turns", "lead", "column", "last"] (Zah Zcc):=‹2›
theorem Zfn(h:Here K mg "empty_column" Zcc) (T:Nm mg) (mn:ZcA P w K mg base CF CR) (mm:Zni P w K mg base CF CR) (mb:Zgl P w K mg base CF CR) (h_take:Has P w K mg base "take" 5 ["kind", "rows", "turns", "turn"] (Zec CF CR)):Has P w K mg base "empty_column" 6 ["kind", "rows", "turns", "lead", "column", "last"] (ZbV CF CR):=by
  refine h.has (λf fd F=>F.binds λ_ _ _ _ _ _ us hl=>by obtain ⟨_,_,_,_,_,_,rfl⟩:=Zqq hl; exact rfl) λf fd F=>F.ok sc_empty_column (λvs H Q E h=>?_) (λcdv A outer s H vs Q E hr h=>?_)
  · obtain ⟨_,_,_,_,_,_,_,_,_,_,_,_,_,_,_,rfl,_⟩:=h
    rfl
  obtain ⟨κ,sk,r,u,Z,R0,m,R,ts,l,c,lv,x,PQ,PN,rfl,hk,wk,ll,cm,nl,x0,h0,pq,pb,n7,l4,k⟩:=h
  have nd:=sc_empty_column.nd
  refine ⟨_,(Zab (Zaj (i:=6) nd rfl (Or.inl rfl) (Zam Zau (Zam Zau (pv 1) (pv 3) (λ_ _=>rfl)) (pv 4) (λ_ _=>rfl)))
    (Zab (Zaj (i:=7) nd rfl (Or.inl rfl) (ZaS (pv 0) Zdl hr (Zaa (pv 5) Zac)))
    (Zae (ZaI PassesOwn.never rfl (Zay (by rfl) T.range (Zaa (Zak Zai (by rfl) T.len boot_len (Zaa (pv 1) Zac)) Zac)) (Zar (i:=8) nd rfl (Or.inl rfl)) (Zae (ZaB (Zap ZeB (pv 8) (pv 3) (Zas _)) (Zab (Zaj (i:=9) nd rfl (Or.inl rfl) (ZaZ (pv 0) hr (Zaa (ZaS (pv 0) Zdl hr (Zaa Zad Zac)) (Zaa (Zam Zau (Zam Zau (pv 1) (pv 8) (λ_ _=>rfl)) (pv 4) (λ_ _=>rfl)) Zac))))
        (Zab (ZaE (Zan h_take hr (by rfl) (Zaa (pv 0) (Zaa (pv 1) (Zaa (pv 2) (Zaa (Za2 (Zaa ZbC (Zaa (pv 8) (Zaa (pv 6) Zac)))) Zac))))))
        (Zab (ZaE (Zan h_take hr (by rfl) (Zaa (pv 0) (Zaa (pv 1) (Zaa (pv 2) (Zaa (Za2 (Zaa ZbC (Zaa (pv 8) (Zaa (pv 3) (Zaa (pv 9) Zac))))) Zac))))))
        (Zae (ZaE (Zan h_take hr (by rfl) (Zaa (pv 0) (Zaa (pv 1) (Zaa (pv 2) (Zaa (Za2 (Zaa ZbC (Zaa (pv 8) (Zaa (pv 7) Zac)))) Zac)))))))))) Zat)))))),?_⟩
  have lR:=wk.len
  have wd:=wk.wd
  have pe:∀i<R0.length,∀j<m,PQ (ent R i j):=λi hi j hj=>Zgq wd pq ⋯ hj
  obtain ⟨as,a,xs,hv,e1,e2,e3,e4,e5,nh⟩:=wk.ent ll cm
  obtain ⟨C,dx,fs,ps,dvs,sp,c1,c2,c3,c4,rfl,c5⟩:=mb κ H sk hk
  refine ⟨_,rfl,_,rfl,r,_,_,_,rfl,rfl,SqL.of e1,Zbi e3,_,rfl,a,_,_,_,rfl,rfl,SqL.of e4,ZaF e5,?_⟩
  refine ⟨_,rfl,sk,C,dx,fs,ps,_,sp,rfl,c1,c2,c3.mono ∅,c4,_,rfl,c5 H lv x _ _ (Same.refl H) nl x0 λbv H1 S1 nb=>?_⟩
  have wk1:=wk.same S1
  have hR1:=S1 _ _ e1
  obtain ⟨tvs,hU1⟩:=wk1.ul
  have hk1:=hk.same S1
  have nh1:=nh.same S1
  refine ⟨_,rfl,r,_,rfl,.inl (SqL.of hR1),_,rfl,?_⟩
  rw[Q1,e2]
  refine ⟨⋯,⋯,?_⟩
  rw[Q6]
  refine ZaG (lo:=0) (n:=R0.length) (λp σ H2=>∃(z8 z9:Option V) (Rp:List (List κ.F)) (tp:List (Tn κ)),σ=[some (.ref sk),some (.ref r),some (.ref u),some (.int (l:Int)),some (.int (c:Int)),some lv,some hv,some bv,z8,z9]/\Off [r,u] H1 H2/\Wk κ Z R0 m r u H2 Rp tp/\tp.length<=ts.length+3*p/\∀i<R0.length,∀j,ent Rp i j=if i<p then ZkC R l c x i j else ent R i j) ⟨_,_,R,ts,rfl,λ_ _ _ q=>q,wk1,⋯,λi hi j=>by rw[if_neg ⋯]⟩ ?_ ?_
  · rintro p σ H2 hp ⟨z8,z9,Rp,tp,rfl,O,wk2,lt,en⟩
    refine ⟨_,rfl,_,rfl,rfl,_,rfl,?_⟩
    refine ZcL (λz=>?_) (λz=>?_)
    case refine_2 =>
      have ep:p=l:=by omega
      refine ⟨_,_,Rp,tp,rfl,O,wk2,⋯,λi hi j=>?_⟩
      rw[en i hi j]
      by_cases q:i<p
      · rw[if_pos q,if_pos ⋯]
      · by_cases q2:i=p
        · rw[if_neg q,if_pos ⋯,q2,ep]
          unfold ZkC
          rw[if_pos rfl]
        · rw[if_neg q,if_neg ⋯]
    have npl:p≠l:=by omega
    have hk2:=hk1.off2 hR1 hU1 O
    have nh2:=nh1.off2 hR1 hU1 O
    have nb2:=nb.off2 hR1 hU1 O
    obtain ⟨as2,a2,xs2,v2,f1,f2,f3,f4,f5,n2⟩:=wk2.ent hp cm
    rw[en p hp c,if_neg ⋯] at n2
    obtain ⟨Cm,dxm,fsm,psm,dvm,spm,m1,m2,m3,m4,rfl,m5⟩:=mm κ H2 sk hk2
    obtain ⟨Cn,dxn,fsn,psn,dvn,spn,k1,k2,k3,k4,rfl,k5⟩:=mn κ H2 sk hk2
    refine ⟨_,rfl,sk,Cm,dxm,fsm,psm,_,spm,rfl,m1,m2,m3.mono ∅,m4,_,rfl,sk,Cn,dxn,fsn,psn,_,spn,rfl,k1,k2,k3.mono ∅,k4,k5 H2 0 0 _ _ (Same.refl _) ZfA λv0 H3 S3 n0=>?_⟩
    refine ⟨_,rfl,_,rfl,r,_,_,_,rfl,rfl,SqL.of (S3 _ _ f1),(by rw[Qc]; exact Zbi f3),_,rfl,a2,_,_,_,rfl,rfl,SqL.of (S3 _ _ f4),ZaF f5,m5 H3 v0 v2 0 _ _ S3 n0 (n2.same S3) Znj (pb.ent _ (pe p hp c cm)) λlsv H4 S4 nls=>?_⟩
    have S24:=S3.trans S4
    have wk4:=wk2.same S24
    have nh4:=nh2.same S24
    have nb4:=nb2.same S24
    have hk4:=hk2.same S24
    have f14:=S24 _ _ f1
    clear S3 S4 n0 m1 m2 m3 m4 m5 k1 k2 k3 k4 k5 f4 f5 n2
    refine ⟨_,rfl,_,rfl,_,rfl,_,rfl,_,rfl,(by show 3<=sizeLine; decide),λt1 nt1=>?_⟩
    have q5:=Zaf (H:=H4) (a:=t1) (o:=.tup [.str "scale", .int (0+(p:Int)),hv])
    have S5:=Zag nt1 (.tup [.str "scale", .int (0+(p:Int)),hv])
    generalize upd H4 t1 (.tup [.str "scale", .int (0+(p:Int)),hv])=H5 at *
    rw[Qc] at q5
    have wk5:=wk4.same S5
    have lRp:=wk5.len
    refine ⟨κ,sk,r,u,Z,R0,m,Rp,tp,.ref t1,.scale (p:Int) (ent R l c),rfl,hk4.same S5,wk5,⋯,⟨t1,hv,rfl,q5,nh4.same S5⟩,⟨⟨⋯,⋯⟩,h0⟩,⟨pb.ent _ (pe l ll c cm),?_⟩,λH6 tp6 O6 wk6 l6=>?_⟩
    · rw[Q6]
      refine Zea wk5.wd ⋯ λj hj=>?_
      rw[en p hp j,if_neg ⋯]
      exact pb.ent _ (pe p hp j hj)
    obtain ⟨tv5,hU5⟩:=wk5.ul
    have hR5:=S5 _ _ f14
    have nls6:=(nls.same S5).off2 hR5 hU5 O6
    have nb6:=(nb4.same S5).off2 hR5 hU5 O6
    have hk6:=(hk4.same S5).off2 hR5 hU5 O6
    have en6:∀i<R0.length,∀j,ent (doT (.scale (p:Int) (ent R l c)) Rp) i j=if i=p then ent R l c*ent R p j else ent Rp i j:=λi hi j=>by
      rw[ZbS (by rw[Q6]; omega),Q6]
      by_cases q:i=p
      · rw[if_pos q,if_pos q,q,en p hp j,if_neg ⋯]
      · rw[if_neg q,if_neg q]
    generalize doT (.scale (p:Int) (ent R l c)) Rp=R6 at *
    refine ⟨_,rfl,_,rfl,_,rfl,_,rfl,_,rfl,_,rfl,(by show 4<=sizeLine; decide),λt2 nt2=>?_⟩
    have q7:=Zaf (H:=H6) (a:=t2) (o:=.tup [.str "add", .int (0+(p:Int)),.int (l:Int),lsv])
    have S7:=Zag nt2 (.tup [.str "add", .int (0+(p:Int)),.int (l:Int),lsv])
    generalize upd H6 t2 (.tup [.str "add", .int (0+(p:Int)),.int (l:Int),lsv])=H7 at *
    rw[Qc] at q7
    have wk7:=wk6.same S7
    have lR6:=wk7.len
    have rl7:∀j,ent R6 l j=ent R l j:=λj=>by
      rw[en6 l ll j,if_neg (Ne.symm npl),en l ll j]
      unfold ZkC
      rw[if_pos rfl]
      split <;> rfl
    refine ⟨κ,sk,r,u,Z,R0,m,R6,tp6,.ref t2,.add (p:Int) (l:Int) (0-ent R p c),rfl,hk6.same S7,wk7,⋯,⟨t2,lsv,rfl,q7,nls6.same S7⟩,⟨⟨⋯,⋯⟩,⟨⋯,⋯⟩,⋯⟩,⟨pb.neg _ (pe p hp c cm),?_,?_⟩,λH8 tp8 O8 wk8 l8=>?_⟩
    · rw[Q6]
      refine Zea wk7.wd ⋯ λj hj=>?_
      rw[en6 p hp j,if_pos rfl]
      exact pb.mul _ _ (pe l ll c cm) (pe p hp j hj)
    · rw[Q6]
      refine Zea (Pr:=λy=>B1 κ y/\B1 κ ((0-ent R p c)*y)) wk7.wd ⋯ λj hj=>?_
      rw[rl7 j]
      exact ⟨pb.ent _ (pe l ll j hj),pb.nml _ _ (pe p hp c cm) (pe l ll j hj)⟩
    obtain ⟨as7,hR7,_⟩:=wk7.rl
    obtain ⟨tv7,hU7⟩:=wk7.ul
    have nb8:=(nb6.same S7).off2 hR7 hU7 O8
    have hk8:=(hk6.same S7).off2 hR7 hU7 O8
    have en8:∀i<R0.length,∀j,ent (doT (.add (p:Int) (l:Int) (0-ent R p c)) R6) i j=if i=p then ent R l c*ent R p j+(0-ent R p c)*ent R l j else ent Rp i j:=λi hi j=>by
      rw[Zgp wk7.wd (by rw[Q6]; omega) (by rw[Q6]; omega),Q6,Q6,rl7 j,en6 i hi j]
      by_cases q:i=p
      · rw[if_pos q,if_pos q,if_pos q]
      · rw[if_neg q,if_neg q,if_neg q]
    generalize doT (.add (p:Int) (l:Int) (0-ent R p c)) R6=R8 at *
    refine ⟨_,rfl,_,rfl,_,rfl,_,rfl,_,rfl,(by show 3<=sizeLine; decide),λt3 nt3=>?_⟩
    have q9:=Zaf (H:=H8) (a:=t3) (o:=.tup [.str "scale", .int (0+(p:Int)),bv])
    have S9:=Zag nt3 (.tup [.str "scale", .int (0+(p:Int)),bv])
    generalize upd H8 t3 (.tup [.str "scale", .int (0+(p:Int)),bv])=H9 at *
    rw[Qc] at q9
    have wk9:=wk8.same S9
    have lR8:=wk9.len
    refine ⟨κ,sk,r,u,Z,R0,m,R8,tp8,.ref t3,.scale (p:Int) (Fd.inv x),rfl,hk8.same S9,wk9,⋯,⟨t3,bv,rfl,q9,nb8.same S9⟩,⟨⟨⋯,⋯⟩,ZhZ x0⟩,⟨pb.inv,?_⟩,λH10 tp10 O10 wk10 l10=>?_⟩
    · rw[Q6]
      refine Zea wk9.wd ⋯ λj hj=>?_
      rw[en8 p hp j,if_pos rfl]
      exact pb.sum _ _ _ _ (pe l ll c cm) (pe p hp j hj) (pe p hp c cm) (pe l ll j hj)
    refine ⟨_,_,_,tp10,rfl,λb o nb' q=>O10 b o nb' (S9 _ _ (O8 b o nb' (S7 _ _ (O6 b o nb' (S5 _ _ (S24 _ _ (O b o nb' q))))))),wk10,⋯,λi hi j=>?_⟩
    rw[ZbS (by rw[Q6]; omega),Q6,en8 i hi j]
    by_cases q:i=p
    · rw[if_pos q,if_pos q,if_pos ⋯]
      unfold ZkC
      rw[if_neg ⋯,q]
    · rw[if_neg q,if_neg q,en i hi j]
      by_cases q2:i<p
      · rw[if_pos q2,if_pos ⋯]
      · rw[if_neg q2,if_neg ⋯]
  · rintro σ H2 ⟨z8,z9,Rp,tp,rfl,O,wk2,lt,en⟩
    refine k H2 Rp tp (λb o nb' q=>O b o nb' (S1 _ _ q)) wk2 (λi hi j=>?_) lt
    rw[en i hi j,if_pos hi]
end
end My
namespace My
open PySem L2 PyProof.Rows
section
variable{P:Program}{w:World}{K:PySem.W.Frag}{mg:Str->Option Value}{base:Heap}{CF CR:Addr}
theorem sc_emptied:FnScope ["kind", "table", "rows", "turns", "leads", "last", "column", "lead", "found"] ["kind", "table"] (Zah Ze2):=‹2›
theorem Zjn(h:Here K mg "emptied" Ze2) (T:Nm mg) (mn:ZcA P w K mg base CF CR) (h_take_bottoms:Has P w K mg base "take_bottoms" 6 ["kind", "rows", "turns"] (ZbU CF CR)) (h_first_filled:Has P w K mg base "first_filled" 6 ["kind", "rows", "start", "column"] (ZbT CF CR)) (h_take:Has P w K mg base "take" 6 ["kind", "rows", "turns", "turn"] (Zec CF CR)) (h_empty_column:Has P w K mg base "empty_column" 6 ["kind", "rows", "turns", "lead", "column", "last"] (ZbV CF CR)):Has P w K mg base "emptied" 7 ["kind", "table"] (Zee CF CR):=by
  refine h.has (λf fd F=>F.binds λ_ _ _ _ _ _ us hl=>by obtain ⟨_,_,rfl⟩:=ZdJ hl; exact rfl) λf fd F=>F.ok sc_emptied (λvs H Q E h=>?_) (λcdv A outer s H vs Q E hr h=>?_)
  · obtain ⟨_,_,_,_,_,_,rfl,_⟩:=h
    rfl
  obtain ⟨κ,sk,tb,rs,R0,m,rfl,hk,hT,rx,wd,n1,n7,m7,qt,k⟩:=h
  have nd:=sc_emptied.nd
  refine ⟨_,(Zab (Zaj (i:=2) nd rfl (Or.inl rfl) (Zbc ZbZ (by rfl) T.list boot_list (Zaa (pv 1) Zac)))
    (Zab (Zaj (i:=3) nd rfl (Or.inl rfl) (ZaQ Zac))
    (Zab (Zaj (i:=4) nd rfl (Or.inl rfl) (ZaQ Zac))
    (Zab (Zaj (i:=5) nd rfl (Or.inl rfl) (ZaS (pv 0) Zdl hr (Zaa Zad Zac)))
    (Zab (ZaE (Zan h_take_bottoms hr (by rfl) (Zaa (pv 0) (Zaa (pv 2) (Zaa (pv 3) Zac)))))
    (Zab (ZaI PassesOwn.never rfl (Zay (by rfl) T.range (Zaa (Zak Zai (by rfl) T.len boot_len (Zaa (Zam Zau (pv 1) Zad (λ_ _=>rfl)) Zac)) Zac)) (Zar (i:=6) nd rfl (Or.inl rfl)) (Zab (Zaj (i:=7) nd rfl (Or.inl rfl) (Zak Zai (by rfl) T.len boot_len (Zaa (pv 4) Zac)))
      (Zab (Zaj (i:=8) nd rfl (Or.inl rfl) (Zan h_first_filled hr (by rfl) (Zaa (pv 0) (Zaa (pv 2) (Zaa (pv 7) (Zaa (pv 6) Zac))))))
      (Zae (ZaB (Zap ZdW (pv 8) (Zak Zai (by rfl) T.len boot_len (Zaa (pv 2) Zac)) (Zas _)) (Zab (ZaB (Zap ZeB (pv 8) (pv 7) (Zas _)) (Zae (ZaE (Zan h_take hr (by rfl) (Zaa (pv 0) (Zaa (pv 2) (Zaa (pv 3) (Zaa (Za2 (Zaa ZbC (Zaa (pv 7) (Zaa (pv 8) Zac)))) Zac))))))) Zat)
        (Zab (ZaE (Zan h_empty_column hr (by rfl) (Zaa (pv 0) (Zaa (pv 2) (Zaa (pv 3) (Zaa (pv 7) (Zaa (pv 6) (Zaa (pv 5) Zac))))))))
        (Zab (Zaj (i:=5) nd rfl (Or.inl rfl) (Zam Zau (Zam Zau (pv 2) (pv 7) (λ_ _=>rfl)) (pv 6) (λ_ _=>rfl)))
        (Zae (ZaE (ZeC PySem.F.plainAttrs_list PySem.F.slot_list_append PySem.F.type_list_append Za3 (pv 4) (Zaa (pv 6) Zac))))))) Zat)))))
    (Zae (Zal (Za2 (Zaa (pv 2) (Zaa (pv 3) (Zaa (pv 4) (Zaa (pv 5) Zac))))))))))))),?_⟩
  have lrs:=rx.1
  obtain ⟨a0,g0⟩:∃a0,rs[0]?=some a0:=⟨rs[0]'⋯,Q2 ⋯⟩
  obtain ⟨f0,e0⟩:=Zax g0 lrs
  obtain ⟨xs0,hx0,al0⟩:=rx.2 0 a0 f0 g0 e0
  have lx0:xs0.length=m:=by rw[al0.1]; exact wd f0 (Q8 e0)
  refine ⟨_,rfl,tb,_,rfl,.inl (SqL.of hT),λr nr=>?_⟩
  have Sr:=Zag nr (.lst (rs.map V.ref))
  have qr:=Zaf (H:=H) (a:=r) (o:=.lst (rs.map V.ref))
  have nrr:=rx.notin nr
  generalize upd H r (.lst (rs.map V.ref))=H1 at *
  refine ⟨(by show 0<=sizeLine; decide),λu nu=>?_⟩
  have Su:=Zag nu (.lst [])
  have qu:=Zaf (H:=H1) (a:=u) (o:=.lst [])
  have nur:=(rx.same Sr).notin nu
  have nru:r≠u:=λz=>by rw[<-z,qr] at nu; cases nu
  generalize upd H1 u (.lst [])=H2 at *
  refine ⟨(by show 0<=sizeLine; decide),λL nL=>?_⟩
  have SL:=Zag nL (.lst [])
  have qL:=Zaf (H:=H2) (a:=L) (o:=.lst [])
  have nLr:=((rx.same Sr).same Su).notin nL
  have nL1:L≠r:=λz=>by rw[z,Su _ _ qr] at nL; cases nL
  have nL2:L≠u:=λz=>by rw[z,qu] at nL; cases nL
  generalize upd H2 L (.lst [])=H3 at *
  have S03:=Sr.trans (Su.trans SL)
  have fu:H u=none:=Sr.free nu
  have fL:H L=none:=(Sr.trans Su).free nL
  obtain ⟨C,dx,fs,ps,dvs,sp,c1,c2,c3,c4,rfl,c5⟩:=mn κ H3 sk (hk.same S03)
  refine ⟨_,rfl,sk,C,dx,fs,ps,_,sp,rfl,c1,c2,c3.mono ∅,c4,c5 H3 1 1 _ _ (Same.refl _) ZeD λv0 H4 S4 nv0=>?_⟩
  have S04:=S03.trans S4
  have wk4:Wk κ [r,u,L] R0 m r u H4 R0 []:=by
    refine ⟨⟨rs,(Su.trans (SL.trans S4)) _ _ qr,rx.same S04,λz hz=>?_⟩,⟨[],(SL.trans S4) _ _ qu,.nil⟩,rfl,(λt h=>nomatch h),λi t h=>by simp at h,wd,nru,⋯,Qh _,by simp,by simp,λz hz=>?_⟩
    · simp only[Q9,W8,or_false] at hz
      rcases hz with rfl | rfl | rfl
      · exact nrr
      · exact nur
      · exact nLr
    · simp only[Q9,W8,or_false] at hz
      rcases hz with rfl | rfl | rfl
      · exact ⟨_,(Su.trans (SL.trans S4)) _ _ qr⟩
      · exact ⟨_,(SL.trans S4) _ _ qu⟩
      · exact ⟨_,S4 _ _ qL⟩
  have fru:∀z∈[r,u],H z=none:=λz hz=>by
    simp only[Q9,W8,or_false] at hz
    rcases hz with rfl | rfl
    · exact nr
    · exact fu
  refine ⟨_,rfl,_,rfl,_,rfl,κ,sk,r,u,[r,u,L],R0,m,rfl,hk.same S04,wk4,qt,n7,λH5 R5 ts5 O5 wk5 l5 stg5=>?_⟩
  have S05:=Off.same O5 S04 fru
  have nLo:L∉[r,u]:=λz=>by
    simp only[Q9,W8,or_false] at z
    rcases z with z | z
    · exact nL1 z
    · exact nL2 z
  have qL5:=O5 _ _ nLo (S4 _ _ qL)
  obtain ⟨as4,hR4,_⟩:=wk4.rl
  obtain ⟨tv4,hU4⟩:=wk4.ul
  have nv5:=nv0.off2 hR4 hU4 O5
  refine ⟨_,rfl,tb,_,0,_,rfl,rfl,SqL.of (S05 _ _ hT),Zbi (i:=0) g0,a0,_,rfl,.inl (SqL.of (S05 _ _ hx0)),_,rfl,?_⟩
  rw[lx0]
  refine ⟨⋯,⋯,?_⟩
  rw[Q6]
  refine ZaG (lo:=0) (n:=m) (λc σ H6=>∃(z6 z7 z8:Option V) (R:List (List κ.F)) (ts:List (Tn κ)) (ls:List Nat) (v:V) (x:κ.F),σ=[some (.ref sk),some (.ref tb),some (.ref r),some (.ref u),some (.ref L),some v,z6,z7,z8]/\Same H H6/\Wk κ [r,u,L] R0 m r u H6 R ts/\H6 L=some (.lst (ls.map λ(i:Nat)=>V.int (i:Int)))/\NR κ H6 v x/\Ech R R0.length c ls x/\Stg κ R ls.length x/\ts.length<=R0.length+40*c) ⟨_,_,_,R5,ts5,[],v0,1,rfl,S05,wk5,qL5,nv5,Znm,stg5,⋯⟩ ?_ ?_
  · rintro c σ H6 hc ⟨z6,z7,z8,R,ts,ls,v,x,rfl,S6,wk6,qL6,nv6,ech,stg,lt⟩
    refine ⟨_,rfl,L,_,rfl,.inl (SqL.of qL6),?_⟩
    rw[Q1]
    refine ⟨_,rfl,_,rfl,_,rfl,_,rfl,κ,sk,r,u,[r,u,L],R0,m,R,ts,ls.length,c,(by rw[Qc]; rfl),hk.same S6,wk6,hc,ech.le,⋯,λf h1 h2 h3 h4=>?_⟩
    obtain ⟨as6,hR6,la6⟩:=wk6.rl
    refine ⟨_,rfl,_,rfl,r,_,rfl,.inl (SqL.of hR6),_,_,rfl,rfl,_,rfl,?_⟩
    rw[Q1,la6]
    refine Zbq (λq=>?_) (λq=>?_)
    case refine_2 =>
      have ef:f=R0.length:=by have:¬(f:Int)<(R0.length:Int):=q; omega
      exact ⟨_,_,_,R,ts,ls,v,x,rfl,S6,wk6,qL6,nv6,ech.skip λi a b=>h4 i a ⋯,stg,⋯⟩
    have hf:f<R0.length:=by have:(f:Int)<(R0.length:Int):=q; omega
    have hll:ls.length<R0.length:=by omega
    have d6:Same H H6/\Wk κ [r,u,L] R0 m r u H6 R ts/\H6 L=some (.lst (ls.map λ(i:Nat)=>V.int (i:Int)))/\NR κ H6 v x:=⟨S6,wk6,qL6,nv6⟩
    clear S6 qL6 nv6 hR6 la6 wk6
    revert H6
    refine' Zox (C:=λH6=>Same H H6/\Wk κ [r,u,L] R0 m r u H6 R ts/\H6 L=some (.lst (ls.map λ(i:Nat)=>V.int (i:Int)))/\NR κ H6 v x) (C':=λH6=>Same H H6/\∃(R1:List (List κ.F)) (ts1:List (Tn κ)),Wk κ [r,u,L] R0 m r u H6 R1 ts1/\H6 L=some (.lst (ls.map λ(i:Nat)=>V.int (i:Int)))/\NR κ H6 v x/\Ech R1 R0.length c ls x/\Stg κ R1 ls.length x/\ts1.length<=ts.length+1/\ent R1 ls.length c≠0) (λk1 H6 d6=>?first) ?second
    case first =>
      obtain ⟨S6,wk6,qL6,nv6⟩:=d6
      refine ⟨_,rfl,_,rfl,rfl,_,rfl,?_⟩
      refine ZcL (λz=>?_) (λz=>?_)
      case refine_2 =>
        have ef:f=ls.length:=by omega
        exact k1 H6 ⟨S6,R,ts,wk6,qL6,nv6,ech,stg,⋯,by rw[<-ef]; exact h3 hf⟩
      have nfl:f≠ls.length:=λe=>z (by rw[e])
      refine ⟨_,rfl,_,rfl,_,rfl,_,rfl,_,rfl,(by show 3<=sizeLine; decide),λt1 nt1=>?_⟩
      have q7:=Zaf (H:=H6) (a:=t1) (o:=.tup [.str "swap", .int (ls.length:Int),.int (f:Int)])
      have S7:=Zag nt1 (.tup [.str "swap", .int (ls.length:Int),.int (f:Int)])
      generalize upd H6 t1 (.tup [.str "swap", .int (ls.length:Int),.int (f:Int)])=H7 at *
      have wk7:=wk6.same S7
      refine ⟨κ,sk,r,u,[r,u,L],R0,m,R,ts,.ref t1,.swap (ls.length:Int) (f:Int),rfl,(hk.same S6).same S7,wk7,⋯,⟨t1,rfl,q7⟩,⟨⟨⋯,⋯⟩,⟨⋯,⋯⟩,⋯⟩,trivial,λH8 ts8 O8 wk8 l8=>?_⟩
      obtain ⟨as7,hR7,_⟩:=wk7.rl
      obtain ⟨tv7,hU7⟩:=wk7.ul
      refine k1 H8 ⟨Off.same O8 (S6.trans S7) fru,_,ts8,wk8,O8 _ _ nLo (S7 _ _ qL6),(nv6.same S7).off2 hR7 hU7 O8,ech.swap wk7.len h1 hf,stg.swap,⋯,?_⟩
      rw[Zgo (by rw[Q6,wk7.len]; exact hll) (by rw[Q6,wk7.len]; exact hf),Q6,Q6,if_neg (Ne.symm nfl),if_pos rfl]
      exact h3 hf
    case second =>
      rintro H6 ⟨S6,R1,ts1,wk6,qL6,nv6,ech1,stg1,lt1,h0⟩
      obtain ⟨PQ,PN,pq,pb,fin⟩:=Znn stg1 ech1.x0 (λz=>by have:=qt.m3 wd n1 z; have:=ech1.lc; omega)
      refine ⟨_,rfl,_,rfl,_,rfl,_,rfl,_,rfl,_,rfl,κ,sk,r,u,[r,u,L],R0,m,R1,ts1,ls.length,c,v,x,PQ,PN,(by rw[Qc]; rfl),hk.same S6,wk6,hll,hc,nv6,ech1.x0,h0,pq,pb,n7,⋯,λH7 R7 ts7 O7 wk7 en l7=>?_⟩
      have S7:=Off.same O7 S6 fru
      have qL7:=O7 _ _ nLo qL6
      have ech7:=ech1.pivot hll h0 en
      have pe:∀i<R0.length,∀j<m,PQ (ent R1 i j):=λi hi j hj=>Zgq wk6.wd pq (by rw[wk6.len]; exact hi) hj
      have stg7:Stg κ R7 (ls.length+1) (ent R1 ls.length c):=fin R7 _ (ZkA wk7.wd λi hi j hj=>by
        have hi:i<R0.length:=by rw[<-wk7.len]; exact hi
        rw[en i hi j]
        unfold ZkC
        split
        · exact pb.keep _ (pe _ hll j hj)
        · exact pb.new _ _ _ _ (pe _ hll c hc) (pe i hi j hj) (pe i hi c hc) (pe _ hll j hj)) (pe _ hll c hc)
      obtain ⟨as7,a7,xs7,v7,g1,g2,g3,g4,g5,n7'⟩:=wk7.ent hll hc
      have e7:ent R7 ls.length c=ent R1 ls.length c:=by
        rw[en _ hll c]
        unfold ZkC
        rw[if_pos rfl]
      rw[e7] at n7'
      refine ⟨_,rfl,_,rfl,r,_,_,_,rfl,rfl,SqL.of g1,Zbi g3,_,rfl,a7,_,_,_,rfl,rfl,SqL.of g4,(by rw[Qc]; exact ZaF g5),?_⟩
      have ll7:=ech7.le
      refine ⟨_,rfl,.inl ⟨rfl,_,SqL.of qL7⟩,_,rfl,L,_,_,rfl,rfl,qL7,Q7 (show (ls.map λ(i:Nat)=>V.int (i:Int)).length<1000 by rw[Q1]; omega) ∅,?_⟩
      have OL:Off [L] H7 (upd H7 L (.lst ((ls.map λ(i:Nat)=>V.int (i:Int))++[.int (0+(c:Int))]))):=ZaH (Same.refl H7)
      refine ⟨_,_,_,R7,ts7,ls++[c],v7,_,rfl,Off.same OL S7 (λz hz=>by rw[Q5.mp hz]; exact fL),wk7.offL (by simp) nL1 nL2 qL7 Zaf OL,?_,n7'.off qL7 OL,ech7,by rw[Qb]; exact stg7,⋯⟩
      rw[Zaf,Qn,Qc]
      rfl
  · rintro σ H6 ⟨z6,z7,z8,R,ts,ls,v,x,rfl,S6,wk6,qL6,nv6,ech,stg,lt⟩
    refine ⟨_,rfl,_,rfl,_,rfl,_,rfl,(by show 4<=sizeLine; decide),λt nt=>?_⟩
    have St:=Zag nt (.tup [.ref r,.ref u,.ref L,v])
    exact k _ t r u L [r,u,L] v R ts ls x (S6.trans St) Zaf nr fu fL (wk6.same St) (by simp) nL1 nL2 (St _ _ qL6) (nv6.same St) ech stg ⋯
theorem sc_steps:FnScope ["kind", "table", "found", "rows", "turns", "back", "lead"] ["kind", "table"] (Zah ZhJ):=‹2›
theorem ZlN(h:Here K mg "steps" ZhJ) (T:Nm mg) (mb:Zgl P w K mg base CF CR) (h_emptied:Has P w K mg base "emptied" 7 ["kind", "table"] (Zee CF CR)) (h_take:Has P w K mg base "take" 7 ["kind", "rows", "turns", "turn"] (Zec CF CR)):Has P w K mg base "steps" 8 ["kind", "table"] (Zgs CF CR):=by
  refine h.has (λf fd F=>F.binds λ_ _ _ _ _ _ us hl=>by obtain ⟨_,_,rfl⟩:=ZdJ hl; exact rfl) λf fd F=>F.ok sc_steps (λvs H Q E h=>?_) (λcdv A outer s H vs Q E hr h=>?_)
  · obtain ⟨_,_,_,_,_,_,rfl,_⟩:=h
    rfl
  obtain ⟨κ,sk,tb,rs,R0,m,rfl,hk,hT,rx,wd,n1,n7,m7,qt,k⟩:=h
  have nd:=sc_steps.nd
  refine ⟨_,(Zab (Zaj (i:=2) nd rfl (Or.inl rfl) (Zan h_emptied hr (by rfl) (Zaa (pv 0) (Zaa (pv 1) Zac))))
    (Zab (Zaj (i:=3) nd rfl (Or.inl rfl) (Zam Zaq (pv 2) Zad (λ_ _=>rfl)))
    (Zab (Zaj (i:=4) nd rfl (Or.inl rfl) (Zam Zaq (pv 2) Zad (λ_ _=>rfl)))
    (Zab (Zaj (i:=5) nd rfl (Or.inl rfl) (ZaS (pv 0) Zdl hr (Zaa (Zam Zaq (pv 2) Zad (λ_ _=>rfl)) Zac)))
    (Zab (ZaI PassesOwn.never rfl (Zay (by rfl) T.range (Zaa (Zak Zai (by rfl) T.len boot_len (Zaa (Zam Zaq (pv 2) Zad (λ_ _=>rfl)) Zac)) Zac)) (Zar (i:=6) nd rfl (Or.inl rfl)) (Zae (ZaE (Zan h_take hr (by rfl) (Zaa (pv 0) (Zaa (pv 3) (Zaa (pv 4) (Zaa (Za2 (Zaa ZbC (Zaa (pv 6) (Zaa (pv 5) Zac)))) Zac))))))))
    (Zae (Zal (Za2 (Zaa (ZaX ["row"] [] rfl (ZaC (pv 3)) (by exact λ_ _ _ _=>(Zar (i:=0) (show (["row"]:List Str).Nodup by decide +kernel) rfl (Or.inl rfl))) (by exact λ_ _ _ _=>(Zbc (Zbn K rfl) (by rfl) T.list boot_list (Zaa (pv 0) Zac))) trivial) (Zaa (pv 4) (Zaa (Zam Zaq (pv 2) Zad (λ_ _=>rfl)) Zac))))))))))),?_⟩
  refine ⟨_,rfl,_,rfl,κ,sk,tb,rs,R0,m,rfl,hk,hT,rx,wd,n1,n7,m7,qt,λH1 t r u L Z v R1 ts ls x S1 ht nr nu nL wk zL nLr nLu hL nv ech stg l180=>?_⟩
  refine ⟨_,rfl,t,_,0,_,rfl,rfl,SqT.of ht,rfl,?_⟩
  refine ⟨_,rfl,t,_,1,_,rfl,rfl,SqT.of ht,rfl,?_⟩
  obtain ⟨C,dx,fs,ps,dvs,sp,c1,c2,c3,c4,rfl,c5⟩:=mb κ H1 sk (hk.same S1)
  refine ⟨_,rfl,sk,C,dx,fs,ps,_,sp,rfl,c1,c2,c3.mono ∅,c4,_,rfl,t,_,3,_,rfl,rfl,SqT.of ht,rfl,c5 H1 v x _ _ (Same.refl _) nv ech.x0 λbv H2 S2 nb=>?_⟩
  have S02:=S1.trans S2
  have wk2:=wk.same S2
  obtain ⟨as2,hR2,_⟩:=wk2.rl
  obtain ⟨tv2,hU2⟩:=wk2.ul
  have hk2:=hk.same S02
  have lR:=wk2.len
  have le:=ech.le
  obtain ⟨bi,bR⟩:=Zow stg ech.x0 (λz=>by have:=qt.m3 wd n1 z; have:=ech.lc; omega)
  have fru:∀z∈[r,u],H z=none:=λz hz=>by
    simp only[Q9,W8,or_false] at hz
    rcases hz with rfl | rfl
    · exact nr
    · exact nu
  have nLo:L∉[r,u]:=λz=>by
    simp only[Q9,W8,or_false] at z
    rcases z with z | z
    · exact nLr z
    · exact nLu z
  have tno:t∉[r,u]:=λz=>by
    simp only[Q9,W8,or_false] at z
    rcases z with z | z
    · obtain ⟨as1,q1,_⟩:=wk.rl
      rw[z,q1] at ht; cases ht
    · obtain ⟨tv1,q1⟩:=wk.ul
      rw[z,q1] at ht; cases ht
  refine ⟨_,rfl,t,_,2,_,rfl,rfl,SqT.of (S2 _ _ ht),rfl,L,_,rfl,.inl (SqL.of (S2 _ _ hL)),_,rfl,?_⟩
  rw[Q1]
  refine ⟨⋯,⋯,?_⟩
  rw[Q6]
  refine ZaG (lo:=0) (n:=ls.length) (λp σ H3=>∃(z6:Option V) (Rp:List (List κ.F)) (tp:List (Tn κ)),σ=[some (.ref sk),some (.ref tb),some (.ref t),some (.ref r),some (.ref u),some bv,z6]/\Off [r,u] H2 H3/\Wk κ Z R0 m r u H3 Rp tp/\tp.length<=ts.length+p/\∀i<R0.length,∀j,ent Rp i j=if i<p then Fd.inv x*ent R1 i j else ent R1 i j) ⟨_,R1,ts,rfl,λ_ _ _ q=>q,wk2,⋯,λi hi j=>by rw[if_neg ⋯]⟩ ?_ ?_
  · rintro p σ H3 hp ⟨z6,Rp,tp,rfl,O,wk3,lt,en⟩
    refine ⟨_,rfl,_,rfl,_,rfl,_,rfl,_,rfl,(by show 3<=sizeLine; decide),λt1 nt1=>?_⟩
    have q5:=Zaf (H:=H3) (a:=t1) (o:=.tup [.str "scale", .int (0+(p:Int)),bv])
    have S5:=Zag nt1 (.tup [.str "scale", .int (0+(p:Int)),bv])
    generalize upd H3 t1 (.tup [.str "scale", .int (0+(p:Int)),bv])=H5 at *
    rw[Qc] at q5
    have wk5:=wk3.same S5
    have lRp:=wk5.len
    refine ⟨κ,sk,r,u,Z,R0,m,Rp,tp,.ref t1,.scale (p:Int) (Fd.inv x),rfl,(hk2.off2 hR2 hU2 O).same S5,wk5,⋯,⟨t1,bv,rfl,q5,(nb.off2 hR2 hU2 O).same S5⟩,⟨⟨⋯,⋯⟩,ZhZ ech.x0⟩,⟨bi,?_⟩,λH6 tp6 O6 wk6 l6=>?_⟩
    · rw[Q6]
      refine Zea wk5.wd ⋯ λj hj=>?_
      rw[en p ⋯ j,if_neg ⋯]
      exact Zgq wk2.wd bR ⋯ hj
    refine ⟨_,_,tp6,rfl,λb o nb' q=>O6 b o nb' (S5 _ _ (O b o nb' q)),wk6,⋯,λi hi j=>?_⟩
    rw[ZbS (by rw[Q6]; omega),Q6,en i hi j]
    by_cases q:i=p
    · rw[if_pos q,if_neg ⋯,if_pos ⋯]
    · rw[if_neg q]
      by_cases q2:i<p
      · rw[if_pos q2,if_pos ⋯]
      · rw[if_neg q2,if_neg ⋯]
  · rintro σ H3 ⟨z6,Rp,tp,rfl,O,wk3,lt,en⟩
    have S03:=Off.same O S02 fru
    have ech3:Ech Rp R0.length m ls 1:=ech.scale en
    obtain ⟨as3,hR3,rx3,nz3⟩:=wk3.rows
    have ht3:=O _ _ tno (S2 _ _ ht)
    have hL3:=O _ _ nLo (S2 _ _ hL)
    obtain ⟨tv3,hU3,al3⟩:=wk3.turns
    have la3:=rx3.1
    have lRp:=wk3.len
    refine ⟨_,rfl,r,rfl,⟨_,SqL.of hR3⟩,?_⟩
    refine ZaL (K:=K) (a:=r) (xs:=as3.map V.ref) (λi ys H4=>Same H3 H4/\∃ds:List Addr,ys=ds.map V.ref/\ds.length=i/\RowsX κ H4 ds (Rp.take i)/\ds.Nodup/\(∀a∈ds,H3 a=none)) (by rw[Q1]; omega) ⟨Same.refl _,[],rfl,rfl,.nil,List.nodup_nil,λa h=>nomatch h⟩ (λi ys H4 _ q=>SqL.of (q.1 _ _ hR3)) ?_ ?_
    · rintro i y ys H4 hy hl ⟨S4,ds,rfl,ld,rd,ndd,nw⟩
      obtain ⟨a,ha,rfl⟩:=Zaw hy
      obtain ⟨f,hf⟩:=Zax ha la3
      obtain ⟨xs,hx,al⟩:=rx3.2 i a f ha hf
      refine ⟨_,rfl,a,_,rfl,.inl (SqL.of (S4 _ _ hx)),λD hD=>?_⟩
      have SD:=Zag hD (.lst xs)
      refine ⟨S4.trans SD,ds++[D],by simp,by simp[ld],?_,ZfU ndd (rd.notin hD),λb hb=>?_⟩
      · rw[Qq,hf]
        exact (rd.same SD).snoc Zaf (al.mono λ_ _ n=>(n.same S4).same SD)
      · rcases Qj.mp hb with q | q
        · exact nw b q
        · rw[Q5.mp q]; exact S4.free hD
    · rintro ys H4 hl ⟨S4,ds,rfl,ld,rd,ndd,nw⟩ D hD
      rw[Q1] at ld
      rw[Q1,la3,Qz] at rd
      have SD:=Zag hD (.lst (ds.map V.ref))
      have qD:=Zaf (H:=H4) (a:=D) (o:=.lst (ds.map V.ref))
      have nDd:=rd.notin hD
      generalize upd H4 D (.lst (ds.map V.ref))=H5 at *
      have S35:=S4.trans SD
      refine ⟨_,rfl,_,rfl,t,_,2,_,rfl,rfl,SqT.of (S35 _ _ ht3),rfl,(by show 3<=sizeLine; decide),λt2 nt2=>?_⟩
      have St:=Zag nt2 (.tup [.ref D,.ref u,.ref L])
      have S3e:=S35.trans St
      have hD3:=S4.free hD
      have run:=wk3.run
      refine k _ t2 D u L ds tv3 tp ls (S03.trans S3e) Zaf (St _ _ qD) (by rw[<-run]; exact (rd.same SD).same St) (S3e _ _ hU3) (al3.mono λ_ _ n=>n.same S3e) (S3e _ _ hL3) wk3.ok wk3.pre ⋯ (by rw[<-run]; exact ech3) (S03.free hD3) nu nL (λa ha=>S03.free (nw a ha)) ndd (λa ha=>⟨λz=>nDd (by rw[<-z]; exact ha),λz=>?_,λz=>?_⟩) (λz=>?_) (λz=>?_) (Ne.symm nLu)
      · have:=nw a ha
        rw[z,hU3] at this; cases this
      · have:=nw a ha
        rw[z,hL3] at this; cases this
      · rw[z,hU3] at hD3; cases hD3
      · rw[z,hL3] at hD3; cases hD3
end
end My
namespace My
open PySem L2 PyProof.Rows
section
variable{κ:KX}
noncomputable def Zb3(f v:Nat->κ.F):Nat->κ.F
  | 0=>0
  | m+1=>Zb3 f v m+f m*v m
theorem ZcB(c:κ.F)(f v:Nat->κ.F):∀m,Zb3 (λj=>c*f j) v m=c*Zb3 f v m
  | 0=>by show (0:κ.F)=c*0; grind
  | m+1=>by
    show Zb3 (λj=>c*f j) v m+c*f m*v m=c*(Zb3 f v m+f m*v m)
    rw[ZcB c f v m]; grind
theorem Zgt(f g v:Nat->κ.F):∀m,Zb3 (λj=>f j+g j) v m=Zb3 f v m+Zb3 g v m
  | 0=>by show (0:κ.F)=0+0; grind
  | m+1=>by
    show Zb3 (λj=>f j+g j) v m+(f m+g m)*v m=Zb3 f v m+f m*v m+(Zb3 g v m+g m*v m)
    rw[Zgt f g v m]; grind
theorem ZdP{f v:Nat->κ.F}:∀ {m},(∀j<m,f j*v j=0)->Zb3 f v m=0
  | 0,_=>rfl
  | m+1,h=>by
    show Zb3 f v m+f m*v m=0
    rw[ZdP λj hj=>h j ⋯,h m ⋯]; grind
theorem ZdQ{f v:Nat->κ.F}{a:Nat}:∀ {m},a<m->(∀j<m,j≠a->f j*v j=0)->Zb3 f v m=f a*v a
  | 0,h,_=>absurd h (Nat.not_lt_zero _)
  | m+1,h,z=>by
    show Zb3 f v m+f m*v m=_
    by_cases e:a=m
    · subst e
      rw[ZdP λj hj=>z j ⋯ ⋯]; grind
    · rw[ZdQ ⋯ λj hj=>z j ⋯,z m ⋯ ⋯]; grind
theorem Zgu{f v:Nat->κ.F}{a b:Nat}(ne:a≠b):∀ {m},a<m->b<m->(∀j<m,j≠a->j≠b->f j*v j=0)->Zb3 f v m=f a*v a+f b*v b
  | 0,h,_,_=>absurd h (Nat.not_lt_zero _)
  | m+1,h,h',z=>by
    show Zb3 f v m+f m*v m=_
    by_cases e:a=m
    · subst e
      rw[ZdQ (a:=b) ⋯ λj hj jb=>z j ⋯ ⋯ jb]; grind
    · by_cases e':b=m
      · subst e'
        rw[ZdQ (a:=a) ⋯ λj hj ja=>z j ⋯ ja ⋯]
      · rw[Zgu ne ⋯ ⋯ λj hj=>z j ⋯,z m ⋯ ⋯ ⋯]; grind
def Ker(R:List (List κ.F))(n m:Nat)(v:Nat->κ.F):Prop:=∀i<n,Zb3 (ent R i) v m=0
theorem Zfo{c s:κ.F}(hc:c≠0)(h:c*s=0):s=0:=by
  have e:=Fd.mul_inv c hc
  have:s=Fd.inv c*(c*s):=by grind
  rw[this,h]; grind
theorem Znr{R:List (List κ.F)}{m:Nat}{t:Tn κ}{v:Nat->κ.F}(wd:Wid m R)(ok:t.ok R.length):Ker (doT t R) R.length m v↔Ker R R.length m v:=by
  cases t with
  | swap a b =>
    obtain ⟨⟨a0,a1⟩,⟨b0,b1⟩,ne⟩:=ok
    have e:=Zgo (R:=R) (a:=a) (b:=b) ⋯ ⋯
    have r:∀i,ent (doT (.swap a b) R) i=if i=b.toNat then ent R a.toNat else if i=a.toNat then ent R b.toNat else ent R i:=λi=>by
      funext j
      rw[e]
      split
      · rfl
      · split <;> rfl
    constructor
    · intro h i hi
      by_cases ia:i=a.toNat
      · have:=h b.toNat ⋯
        rw[r,if_pos rfl] at this
        rw[ia]; exact this
      · by_cases ib:i=b.toNat
        · have:=h a.toNat ⋯
          rw[r,if_neg ⋯,if_pos rfl] at this
          rw[ib]; exact this
        · have:=h i hi
          rw[r,if_neg ib,if_neg ia] at this
          exact this
    · intro h i hi
      rw[r]
      split
      · exact h _ ⋯
      · split
        · exact h _ ⋯
        · exact h _ hi
  | scale a c =>
    obtain ⟨⟨a0,a1⟩,c0⟩:=ok
    have r:∀i,Zb3 (ent (doT (.scale a c) R) i) v m=if i=a.toNat then c*Zb3 (ent R i) v m else Zb3 (ent R i) v m:=λi=>by
      have:ent (doT (.scale a c) R) i=if i=a.toNat then (λj=>c*ent R i j) else ent R i:=by
        funext j
        rw[ZbS ⋯]
        split <;> rfl
      rw[this]
      split
      · exact ZcB _ _ _ _
      · rfl
    constructor
    · intro h i hi
      have:=h i hi
      rw[r] at this
      split at this
      · exact Zfo c0 this
      · exact this
    · intro h i hi
      rw[r,h i hi]
      split
      · grind
      · rfl
  | add a b c =>
    obtain ⟨⟨a0,a1⟩,⟨b0,b1⟩,ne⟩:=ok
    have r:∀i,Zb3 (ent (doT (.add a b c) R) i) v m=if i=a.toNat then Zb3 (ent R i) v m+c*Zb3 (ent R b.toNat) v m else Zb3 (ent R i) v m:=λi=>by
      have:ent (doT (.add a b c) R) i=if i=a.toNat then (λj=>ent R i j+(λj=>c*ent R b.toNat j) j) else ent R i:=by
        funext j
        rw[Zgp wd ⋯ ⋯]
        split <;> rfl
      rw[this]
      split
      · rw[Zgt,ZcB]
      · rfl
    constructor
    · intro h
      have hb:Zb3 (ent R b.toNat) v m=0:=by
        have:=h b.toNat ⋯
        rw[r,if_neg ⋯] at this
        exact this
      intro i hi
      have:=h i hi
      rw[r] at this
      split at this
      · rw[hb] at this
        grind
      · exact this
    · intro h i hi
      rw[r,h i hi,h b.toNat ⋯]
      split
      · grind
      · rfl
theorem ZiB{m:Nat}{v:Nat->κ.F}{ts:List (Tn κ)}:∀ {R:List (List κ.F)},Wid m R->(∀t∈ts,t.ok R.length)->(Ker (ZcJ ts R) R.length m v↔Ker R R.length m v):=by
  induction ts with
  | nil=>exact λ_ _=>Iff.rfl
  | cons t ts ih =>
    intro R wd ok
    have o:=ok t (by simp)
    have l:=Zd9 t R
    have:=ih (R:=doT t R) (Zfh wd o) (λt' h'=>by rw[l]; exact ok t' (by simp[h']))
    rw[l] at this
    exact this.trans (Znr wd o)
theorem ZkD{R:List (List κ.F)}{n m j:Nat}{ls:List Nat}{x:κ.F}(h:Ech R n m ls x)(nj:∀k<ls.length,ls.getD k 0≠j):∃v:Nat->κ.F,v j=1/\(∀k<ls.length,v (ls.getD k 0)=0-Fd.inv x*ent R k j)/\∀j',j'≠j->(∀k<ls.length,ls.getD k 0≠j')->v j'=0:=by
  classical
  refine ⟨λj'=>if j'=j then 1 else if hk:∃k,k<ls.length/\ls.getD k 0=j' then 0-Fd.inv x*ent R hk.choose j else 0,if_pos rfl,λk hk=>?_,λj' h1 h2=>?_⟩
  · have ex:∃k',k'<ls.length/\ls.getD k' 0=ls.getD k 0:=⟨k,hk,rfl⟩
    show (if ls.getD k 0=j then (1:κ.F) else _)=_
    rw[if_neg (nj k hk),dif_pos ex]
    obtain ⟨c1,c2⟩:=ex.choose_spec
    generalize ex.choose=k' at *
    have:k'=k:=by
      rcases Nat.lt_trichotomy k' k with l | l | l
      · have:=h.inc k' k l hk; omega
      · exact l
      · have:=h.inc k k' l c1; omega
    rw[this]
  · show (if j'=j then (1:κ.F) else _)=0
    rw[if_neg h1,dif_neg (λ⟨k,a,b⟩=>h2 k a b)]
theorem Zns{R R':List (List κ.F)}{n m j:Nat}{ls:List Nat}{x x':κ.F}{v:Nat->κ.F}(h':Ech R' n m ls x')(hj:j<m)(nj:∀k<ls.length,ls.getD k 0≠j)(v1:v j=1)(v2:∀k<ls.length,v (ls.getD k 0)=0-Fd.inv x*ent R k j)(v3:∀j',j'≠j->(∀k<ls.length,ls.getD k 0≠j')->v j'=0){k:Nat}(hk:k<ls.length):Zb3 (ent R' k) v m=ent R' k j+x'*(0-Fd.inv x*ent R k j):=by
  have le:=h'.le
  rw[Zgu (a:=j) (b:=ls.getD k 0) (Ne.symm (nj k hk)) hj (h'.lt k hk),v1,v2 k hk,h'.col k hk k ⋯,if_pos rfl]
  · grind
  · intro j' _ n1 n2
    by_cases e:∀k<ls.length,ls.getD k 0≠j'
    · rw[v3 j' n1 e]; grind
    · obtain ⟨k',e⟩:=Classical.not_forall.mp e
      obtain ⟨hk',e⟩:=Classical.not_forall.mp e
      have e:ls.getD k' 0=j':=Classical.not_not.mp e
      rw[<-e,h'.col k' hk' k ⋯,if_neg (λz=>n2 (by rw[z]; exact e.symm))]; grind
theorem ZkE{R:List (List κ.F)}{n m j:Nat}{ls:List Nat}{x:κ.F}{v:Nat->κ.F}(h:Ech R n m ls x)(hj:j<m)(nj:∀k<ls.length,ls.getD k 0≠j)(v1:v j=1)(v2:∀k<ls.length,v (ls.getD k 0)=0-Fd.inv x*ent R k j)(v3:∀j',j'≠j->(∀k<ls.length,ls.getD k 0≠j')->v j'=0):Ker R n m v:=by
  intro i hi
  by_cases hk:i<ls.length
  · rw[Zns h hj nj v1 v2 v3 hk]
    have:=Fd.mul_inv x h.x0
    grind
  · exact ZdP λj' hj'=>by rw[h.low i ⋯ hi j' hj']; grind
theorem ZiC{R1 R2:List (List κ.F)}{n n2 m:Nat}{l1 l2:List Nat}{x1 x2:κ.F}(h1:Ech R1 n m l1 x1)(h2:Ech R2 n2 m l2 x2)(ker:∀v,Ker R2 n2 m v->Ker R1 n m v):∀k<l1.length,∃k'<l2.length,l2.getD k' 0=l1.getD k 0:=by
  intro k hk
  refine Classical.byContradiction λnx=>?_
  have nj:∀k'<l2.length,l2.getD k' 0≠l1.getD k 0:=λk' hk' e=>nx ⟨k',hk',e⟩
  obtain ⟨v,v1,v2,v3⟩:=ZkD h2 nj
  have kv:=ker v (ZkE h2 (h1.lt k hk) nj v1 v2 v3) k (by have:=h1.le; omega)
  rw[ZdQ (a:=l1.getD k 0) (h1.lt k hk),v1,h1.col k hk k (by have:=h1.le; omega),if_pos rfl] at kv
  · exact h1.x0 (by grind)
  · intro j hj ne
    by_cases lt:j<l1.getD k 0
    · rw[h1.pre k hk j lt]; grind
    · have z:v j=0:=by
        by_cases e:∀k<l2.length,l2.getD k 0≠j
        · exact v3 j ne e
        · obtain ⟨k',e⟩:=Classical.not_forall.mp e
          obtain ⟨hk',e⟩:=Classical.not_forall.mp e
          have e:l2.getD k' 0=j:=Classical.not_not.mp e
          rw[<-e,v2 k' hk',h2.pre k' hk' _ ⋯]; grind
      rw[z]; grind
theorem ZkF:∀ {l1 l2:List Nat},l1.Pairwise (· < ·)->l2.Pairwise (· < ·)->(∀x,x∈l1↔x∈l2)->l1=l2
  | [],[],_,_,_=>rfl
  | [],b::l2,_,_,h=>by have:=(h b).mpr (by simp); simp at this
  | a::l1,[],_,_,h=>by have:=(h a).mp (by simp); simp at this
  | a::l1,b::l2,p1,p2,h=>by
    obtain ⟨q1,r1⟩:=List.pairwise_cons.mp p1
    obtain ⟨q2,r2⟩:=List.pairwise_cons.mp p2
    have e:a=b:=by
      rcases Q9.mp ((h a).mp (by simp)) with e | m1
      · exact e
      · rcases Q9.mp ((h b).mpr (by simp)) with e | m2
        · exact e.symm
        · have:=q2 a m1; have:=q1 b m2; omega
    subst e
    refine congrArg (List.cons a) (ZkF r1 r2 λx=>?_)
    constructor
    · intro m
      rcases Q9.mp ((h x).mp (by simp[m])) with e | m'
      · have:=q1 x m; omega
      · exact m'
    · intro m
      rcases Q9.mp ((h x).mpr (by simp[m])) with e | m'
      · have:=q2 x m; omega
      · exact m'
theorem ZcZ{l:List Nat}{k:Nat}(h:k<l.length):l.getD k 0=l[k]:=by rw[Q3,Q2 h]; rfl
theorem Ech.pw{R:List (List κ.F)}{n m:Nat}{ls:List Nat}{x:κ.F}(h:Ech R n m ls x):ls.Pairwise (· < ·) :=
  List.pairwise_iff_getElem.mpr λi j hi hj l=>by have:=h.inc i j l hj; rw[ZcZ hi,ZcZ hj] at this; exact this
theorem ZiD{l:List Nat}{x:Nat}:x∈l↔∃k<l.length,l.getD k 0=x:=by
  constructor
  · intro m
    obtain ⟨k,hk,e⟩:=Wg m
    exact ⟨k,hk,by rw[ZcZ hk]; exact e⟩
  · rintro ⟨k,hk,e⟩
    rw[ZcZ hk] at e
    rw[<-e]; exact Qf hk
theorem ZiE{R1 R2:List (List κ.F)}{n n2 m:Nat}{l1 l2:List Nat}{x1 x2:κ.F}(h1:Ech R1 n m l1 x1)(h2:Ech R2 n2 m l2 x2)(ker:∀v,Ker R2 n2 m v↔Ker R1 n m v):l1=l2:=by
  refine ZkF h1.pw h2.pw λx=>?_
  rw[ZiD,ZiD]
  constructor
  · rintro ⟨k,hk,e⟩
    obtain ⟨k',hk',e'⟩:=ZiC h1 h2 (λv=>(ker v).mp) k hk
    exact ⟨k',hk',e'.trans e⟩
  · rintro ⟨k,hk,e⟩
    obtain ⟨k',hk',e'⟩:=ZiC h2 h1 (λv=>(ker v).mpr) k hk
    exact ⟨k',hk',e'.trans e⟩
end
end My
namespace My
open PySem L2 PyProof.Rows
section
variable{κ:KX}
noncomputable def Znt(N s n:Nat)(f:List κ.F):List κ.F:=List.replicate s 0++f++List.replicate (N-s-n) 0
noncomputable def Zpt(N:Nat):Nat->List (List (List κ.F))->List (List κ.F)
  | _,[]=>[]
  | s,T::Ts=>T.map (Znt N s T.length)++Zpt N (s+T.length) Ts
noncomputable def Zpu(N i:Nat)(x:κ.F)(b:Bool):List κ.F:=(List.range N).map λj=>if j=i then x else if b=true/\j+1=i then 1 else 0
noncomputable def ZqD(x:κ.F)(n:Nat):List (List κ.F):=(List.range n).map λp=>(List.range n).map λc=>if c=p then x else if c+1=p then 1 else 0
noncomputable def dsc(bl:List (κ.F×Nat)):List (κ.F×Bool):=bl.flatMap λd=>(List.range d.2).map λk=>(d.1,decide (0<k))
noncomputable def Zqr(bl:List (κ.F×Nat)):List (List κ.F):=(dsc bl).mapIdx λi d=>Zpu (dsc bl).length i d.1 d.2
noncomputable def Zqs(i:Nat)(d:κ.F×Bool):List κ.F:=if d.2=true then (List.replicate i 0++[d.1]).set (i-1) 1 else List.replicate i 0++[d.1]
noncomputable def Zqt(ds:List (κ.F×Bool)):List (List κ.F):=ds.mapIdx Zqs
end
end My
namespace My
open PySem L2 PyProof.Rows
theorem RowsX.cat{κ:KX}{H:Hp}{as bs:List Addr}{R S:List (List κ.F)}(h:RowsX κ H as R)(g:RowsX κ H bs S):RowsX κ H (as++bs) (R++S):=by
  have l:=h.1
  have l2:=g.1
  refine ⟨by rw[Qb,Qb,l,l2],λi a f ha hf=>?_⟩
  by_cases hi:i<as.length
  · rw[Wi hi] at ha
    rw[Wi ⋯] at hf
    exact h.2 i a f ha hf
  · rw[Ws ⋯] at ha hf
    rw[<-l] at hf
    exact g.2 _ a f ha hf
end My
namespace L2
open PySem PySem.Spec PyProof.Rows
theorem ZiF{α β:Type}{f g:α->Option β}:∀ {l:List α},(∀a∈l,f a=g a)->l.filterMap f=l.filterMap g
  | [],_=>rfl
  | a::l,h=>by
    have ih:=ZiF (l:=l) λb hb=>h b (Wh _ hb)
    rw[Uh,Uh,h a Wa,ih]
theorem ZfC(its:List Value):slicePick its.toArray none none (some (-1))=its.reverse.toArray:=by
  have e:sliceBounds none none (some (-1)) its.toArray.size=((its.length:Int)-1,-1,-1):=by
    simp[sliceBounds]
  unfold slicePick
  rw[e]
  congr 1
  show (sliceRange ((its.length:Int)-1) (-1) (-1)).filterMap _=_
  have e2:sliceRange ((its.length:Int)-1) (-1) (-1)=(List.range its.length).map λ(k:Nat)=>its.length-1-k:=by
    unfold sliceRange
    by_cases h:0<its.length
    · have c:(((its.length:Int)-1 - -1 - -1-1)/(- -1))=(its.length:Int):=by
        rw[show (- -1:Int)=1 from rfl,Int.ediv_one]; omega
      simp only[show ¬((-1:Int)>0) by decide,if_false,show (its.length:Int)-1 > -1 by omega,if_true,c,Q6]
      apply List.map_congr_left
      intro k hk
      have:=Wr.mp hk
      omega
    · have z:its.length=0:=by omega
      rw[z]
      rfl
  rw[e2]
  have e3:=pick_run its.reverse.toArray 0 its.length
  rw[List.drop_zero,Wy (by simp)] at e3
  have e4:its.reverse.toArray.toList=its.reverse:=rfl
  rw[e4] at e3
  rw[<-e3,List.filterMap_map,List.filterMap_map]
  refine ZiF ?_
  intro k hk
  have hk:=Wr.mp hk
  show its.toArray[its.length-1-k]?=its.reverse.toArray[0+k]?
  rw[Nat.zero_add,List.getElem?_toArray,List.getElem?_toArray,Um hk]
section
variable{X:Cx}{e st:Expr}{te ts:TE}{pos p2:Pos}
theorem ZkG{xs:List V}:∀ {us:List Value},Vals xs us->Vals xs.reverse us.reverse:=by
  induction xs with
  | nil=>intro us r; cases r; exact .nil
  | cons x xs ih =>
    intro us r
    cases r with
    | cons r1 r2 =>
      rw[List.reverse_cons,List.reverse_cons]
      exact (ih r2).append (.cons r1 .nil)
def Zqu(K:PySem.W.Frag)(te ts:TE):TE:=λσ H Q=>te σ H λx H1=>ts σ H1 λy H2=>y = .int (-1)/\∃a xs,x = .ref a/\SqL K H2 a xs/\∀p,H2 p=none->Q (.ref p) (upd H2 p (.lst xs.reverse))
theorem Zoy(he:PE X e te)(hs:PE X st ts):PE X (.Subscript e (.Slice none none (some st) p2) pos) (Zqu X.K te ts):=by
  intro pins s σ H Q I h
  refine Subscript_ (thn (he pins s σ H _ I h) λv s1 ⟨x,H1,I1,r1,q1⟩=>?_)
  refine wpAny_Slice ?_
  rw[evalPart_none]
  refine wpAny_pure (wpAny_pure ?_)
  rw[evalPart_some]
  refine thn (hs pins s1 σ H1 _ I1 q1) λvs s3 ⟨y,H3,I3,ry,q3⟩=>?_
  obtain ⟨rfl,a,xs,rfl,hx,q⟩:=q3
  obtain ⟨t,rfl⟩:=ry
  cases r1
  have I4:Inv X pins σ H3 { s3 with heap:=s3.heap.push { cls:=.type "slice", data:=.fields #[.none,.none,.int (-1) t] } }:=I3.kept (t':=s3.toks) λb ob q=>Heap.get?_push_of_some _ q
  obtain ⟨its,r,ht,hz⟩:=I4.list hx
  have hlen:=r.length
  show wpAny (model X.prog X.w) X.A (subscriptTail e (.Slice none none (some st) p2) (.ref a) (.ref s3.heap.objs.size)) (EP X pins σ Q) X.xe { s3 with heap:=s3.heap.push { cls:=.type "slice", data:=.fields #[.none,.none,.int (-1) t] } }
  refine tail_any (ops:=[.ref a,.ref s3.heap.objs.size]) ht.isList.typeIs slot_list_getitem.lookup ?_ (by with_unfolding_all rfl)
  refine wpAny_getItem_list_slice ht.isList (Heap.IsSliceOf.new ..) .none .none (.int (-1) t) (by simp) ?_ (by rw[Qe]; omega)
  rw[ZfC]
  refine ⟨.ref _,_,I4.laid (t':=s3.toks) (o:=.lst xs.reverse) (λb ob q=>Heap.get?_push_of_some _ q) (Q4 _) ?_,rfl,q _ (I4.hok.fresh (Q4 _))⟩
  exact ⟨by rw[Ue]; exact hz,_,0,ZkG r,Heap.get?_push_size _ rfl⟩
end
section
variable{X:Cx}{k:Nat}
def Zqv:R2:=λx y H Q=>∃a b xs,x = .ref a/\y = .ref b/\H a=some (.lst xs)/\H b=some (.lst [])/\Q (.bl (decide (xs.length=0))) H
theorem Zoz(hr:Room k X.A):OpR X (compareOp .Eq) Zqv:=by
  intro pins s σ H x y v u Q I rx ry h
  obtain ⟨a,b,xs,rfl,rfl,hx,hy,q⟩:=h
  cases rx
  cases ry
  obtain ⟨its,r1,p1,_⟩:=I.list (SqL.of (K:=X.K) hx)
  obtain ⟨jts,r2,p2,_⟩:=I.list (SqL.of (K:=X.K) hy)
  have l1:=r1.length
  have l2:=r2.length
  rw[List.length_nil] at l2
  have hu:=hr.units
  by_cases h0:xs.length=0
  · refine SeqAt.eq_listAt (e:=λ_=>true) p1.isList p2.isList (by simp; omega) ⋯ (λj h1 h2=>by simp at h2; omega) ?_
    refine ⟨.bl true,H,I,?_,?_⟩
    · show Value.bool _=Value.bool _
      rw[Zb8]
    · rw[decide_eq_true h0] at q; exact q
  · refine SeqAt.eq_list_lengthsAt p1.isList p2.isList (by simp; omega) ⋯ ?_
    refine ⟨.bl false,H,I,rfl,?_⟩
    rw[decide_eq_false h0] at q; exact q
end
end L2
namespace L2
open PySem PySem.Spec PyProof.Rows
section
variable{X:Cx}{tg:Expr}
end
theorem Zjo:typeLookup (.type "list_reverseiterator") "__len__" = pure none:=by rw[typeLookup_type,builtinLookup_eq_fast]; kernel_rfl
theorem ZlO:typeLookup (.type "list_reverseiterator") "__length_hint__" = pure (some (.builtin "list_reverseiterator.__length_hint__")):=by rw[typeLookup_type,builtinLookup_eq_fast]; kernel_rfl
section
variable{prog:Program}{w:World}{A:Around}{s:Shared}{R:Result->Shared->Prop}
theorem Zjp{I l:Addr}{items:Array Value}(hh:A.handled=none)(hne:l≠I)(S:Addr)(res:Value)(c₀:Nat)(hI:s.heap.IsRevIter I l ((items.size:Int)-1))(hl:s.heap.IsList l items)(hSI:S≠I)(hSl:S≠l)(hn:items.size<=sizeLine)
    (hS:s.heap.get? S=some { cls:=.type "list", data:=.seq #[] c₀ })
    (hR:∀h' tk acc' c',(∀b o,b≠S->b≠I->s.heap.get? b=some o->h'.get? b=some o)->h'.get? S=some { cls:=.type "list", dict:=none,data:=.seq acc' c',slots:=#[] }->ItemsOf (λi v=>items[items.size-1-i]?=some v) acc' items.size->R (.ok (.ret res)) { s with heap:=h',toks:=tk }) :
    wpAny (model prog w) A.in1 (Builtin.List.listExtendWith (.ref S) (.ref I) res)
      (λfin s'=>match fin with | .done f=>R (.ok f) s' | .again c'=>c'.quiet=true/\codeAny (model prog w) A c' R s') (λe s'=>R (.error e) s') s:=by
  have W:=(Walks.listRev (prog:=prog) (w:=w) (A:=A.in1) hh I l hne items).toS
  unfold Builtin.List.listExtendWith
  refine wpAny_bind (wpAny_typeOf hI.typeIs ?_)
  have h1:Builtin.List.listSameRef (.ref S) (.ref I)=false:=by simp[Builtin.List.listSameRef,hSI]
  have h2:(Value.type "list_reverseiterator" == Value.type "list")=false:=by decide
  have h3:(Value.type "list_reverseiterator" == Value.type "tuple")=false:=by decide
  simp only[h1,h2,h3,Bool.or_false,Bool.false_eq_true,if_false]
  refine wpAny_bind (wpAny_pyIter_revIter hI ?_)
  refine wpAny_bind (wpAny_holding ?_)
  unfold Builtin.List.listLengthHint
  refine wpAny_bind (wpAny_specialOf hI.typeIs Zjo ?_)
  show wpAny _ A.in1 (specialOf (Value.ref I) (Str.ofString "__length_hint__") >>= _) _ _ _
  refine wpAny_bind (wpAny_specialOf hI.typeIs ZlO ?_)
  generalize hid:("list_reverseiterator.__length_hint__" : String)=id0
  wp_delta
  rw[show splitId id0=some ("list_reverseiterator", "__length_hint__") from by subst hid; decide +kernel]
  subst hid
  refine wpAny_bind (wpAny_isInstance (T := "list_reverseiterator") (b:=true) hI.typeIs (by rw[isSubtype_type]; kernel_rfl) ?_)
  refine wpAny_ite_split (λhab=>absurd hab ∅) (λ_=>?_)
  refine wpAny_ite_split (λ_=>?_) (λhab=>absurd (by decide +kernel) hab)
  refine wpAny_ite_split (λhab=>absurd hab (by decide +kernel)) (λ_=>?_)
  refine wpAny_pure ?_
  have hst:(0:Nat)<=items.size/\s.heap.IsRevIter I l ((items.size:Int)-1-((0:Nat):Int))/\s.heap.IsList l items:=⟨Qh _,by simpa using hI,hl⟩
  refine wpAny_ite_split (λhab=>absurd hab (by decide +kernel)) (λ_=>wpAny_pure ⟨plainId_quiet F.plain_extend_loop _,?_⟩)
  refine codeAny_extend_loopS W hn S ?_ res items.size 0 s #[] c₀ rfl (Qh _) hst hS (ItemsOf.nil _) λs' acc' c' hm hS' hacc=>?_
  · intro hm
    rcases Q9.mp hm with e | e
    · exact hSI e
    · exact hSl (Q5.mp e)
  rw[Moved.eq_with hm]
  refine hR s'.heap s'.toks acc' c' (λb o hb hb2 e=>hm.heap b o (λhmem=>?_) e) hS' hacc
  rcases Q9.mp hmem with e' | hmem
  · exact hb e'
  · exact hb2 (Q5.mp hmem)
theorem Zgv{I l:Addr}{items:Array Value}(hh:A.handled=none)(hne:l≠I)(S:Addr)(hI:s.heap.IsRevIter I l ((items.size:Int)-1))(hl:s.heap.IsList l items)(hSI:S≠I)(hSl:S≠l)(hn:items.size<=sizeLine)
    (hS:s.heap.get? S=some { cls:=.type "list", data:=.seq #[] })
    (hR:∀h' tk acc' c',(∀b o,b≠S->b≠I->s.heap.get? b=some o->h'.get? b=some o)->h'.get? S=some { cls:=.type "list", dict:=none,data:=.seq acc' c',slots:=#[] }->ItemsOf (λi v=>items[items.size-1-i]?=some v) acc' items.size->R (.ok (.ret .none)) { s with heap:=h',toks:=tk }) :
    wpAny (model prog w) A.in1 (Builtin.«list.__init__» ⟨[.ref S,.ref I],[]⟩)
      (λfin s'=>match fin with | .done f=>R (.ok f) s' | .again c'=>c'.quiet=true/\codeAny (model prog w) A c' R s') (λe s'=>R (.error e) s') s:=by
  show wpAny _ _ (do let old ← Builtin.List.listItems (.ref S); Builtin.List.listUpdate (.ref S) (λ_=>#[]); letGo old.toList.reverse; Builtin.List.listExtendWith (.ref S) (.ref I) .none) _ _ s
  refine wpAny_bind ?_
  unfold Builtin.List.listItems
  refine wpAny_bind (wpAny_seqItems hS rfl (wpAny_pure ?_))
  show wpAny _ _ (updateSeq S (λ_=>#[]) >>= λ_=>letGo (#[]:Array Value).toList.reverse >>= λ_=>Builtin.List.listExtendWith (.ref S) (.ref I) .none) _ _ s
  refine wpAny_bind (wpAny_updateSeq hS rfl ?_)
  have hS₂:=Heap.get?_update_self (Obj.mapSeq (λ_=>(#[]:Array Value))) hS rfl
  have oth:∀b o,b≠S->s.heap.get? b=some o->(s.heap.update S (Obj.mapSeq (λ_=>(#[]:Array Value)))).get? b=some o :=
    λb o hb e=>(Heap.get?_update_other _ _ (Ne.symm hb)).trans e
  refine wpAny_bind (wpAny_letGo ?_)
  refine Zjp hh hne S .none _ (hI.at λo e=>oth I o (Ne.symm hSI) e) (hl.at λo e=>oth l o (Ne.symm hSl) e) hSI hSl hn hS₂ λh' tk acc' c' hk hS' hacc=>?_
  exact hR h' tk acc' c' (λb o hb hb2 e=>hk b o hb hb2 (oth b o hb e)) hS' hacc
end
section
variable{prog:Program}{w:World}{A:Around}{E:Value->Shared->Prop}{s:Shared}
theorem Zef{Q:Value->Shared->Prop}{I l:Addr}{items:Array Value}(hh:A.handled=none)(hne:l≠I)(hI:s.heap.IsRevIter I l ((items.size:Int)-1))(hl:s.heap.IsList l items)(hn:items.size<=sizeLine)
    (hQ:∀h' tk acc' c',(∀b o,b≠I->s.heap.get? b=some o->h'.get? b=some o) →
      h'.get? s.heap.objs.size=some { cls:=.type "list", dict:=none,data:=.seq acc' c',slots:=#[] }->ItemsOf (λi v=>items[items.size-1-i]?=some v) acc' items.size->Q (.ref s.heap.objs.size) { s with heap:=h',toks:=tk }) :
    wpAny (model prog w) A (call (.type "list") [.ref I]) Q E s:=by
  refine callType_codes (Q₁:=λobj s₁=>obj = .ref s.heap.objs.size/\s₁={ s with heap:=s.heap.push { cls:=.type "list", data:=.seq #[] } }) F.called_list (F.typeCall_list_1 _) F.entry_list_init
    (code_list_new _ ⟨rfl,rfl⟩) λobj s₁ h₁=>?_
  obtain ⟨rfl,rfl⟩:=h₁
  have hS:(s.heap.push { cls:=.type "list", data:=.seq #[] }).get? s.heap.objs.size=some { cls:=.type "list", data:=.seq #[] }:=Heap.get?_push_size _ rfl
  obtain ⟨o1,ho1,_⟩:=id hI
  obtain ⟨o2,ho2,_⟩:=id hl
  refine ⟨⟨_,hS,rfl⟩,F.args_list_init_2 _ _,Zgv (A:=A.in1) hh hne _ (hI.at λo e=>Heap.get?_push_of_some _ e) (hl.at λo e=>Heap.get?_push_of_some _ e) (Ne.symm (Qg (Heap.lt_size ho1))) (Ne.symm (Qg (Heap.lt_size ho2))) hn hS λh' tk acc' c' hk hS' hacc=>?_⟩
  exact ⟨rfl,hQ h' tk acc' c' (λb o hb e=>hk b o (Qg (Heap.lt_size e)) hb (Heap.get?_push_of_some _ e)) hS' hacc⟩
end
section
variable{X:Cx}{e1:Expr}{ta:TA}{p p2 pos pos2:Pos}
def Zpv(K:PySem.W.Frag)(ta:TA):TE:=λσ H Q=>ta σ H λvs H1=>∃a xs,vs=[.ref a]/\SqL K H1 a xs/\∀p,H1 p=none->Q (.ref p) (upd H1 p (.lst xs.reverse))
theorem ZkH{its:List Value}{acc:Array Value}(h:ItemsOf (λi v=>its.toArray[its.toArray.size-1-i]?=some v) acc its.toArray.size):acc=its.reverse.toArray:=by
  obtain ⟨h1,h2⟩:=h
  have z1:its.toArray.size=its.length:=Qe
  have z2:its.reverse.toArray.size=its.length:=Qe.trans Ue
  refine Array.ext ⋯ λi g1 g2=>?_
  have:=h2 i acc[i] (Array.getElem?_eq_getElem g1)
  have e:its.reverse.toArray[i]?=some acc[i]:=by
    rw[List.getElem?_toArray,Um ⋯,<-List.getElem?_toArray,<-this,Qe]
  rw[Array.getElem?_eq_getElem g2] at e
  exact (Option.some.inj e).symm
theorem Zjq(hgl:Gl X "list") (hml:X.mg "list" = none) (hg:Gl X "reversed") (hm:X.mg "reversed" = none) (hcalm:X.calm=true) (ha:PA X [e1] ta) (hs:starEach [e1] X.env=[(false,eval e1 X.env)]:=by rfl) (hs2:starEach [.Call (.Name "reversed" p) [e1] [] pos] X.env=[(false,eval (.Call (.Name "reversed" p) [e1] [] pos) X.env)]:=by rfl) :
    PE X (.Call (.Name "list" p2) [.Call (.Name "reversed" p) [e1] [] pos] [] pos2) (Zpv X.K ta):=by
  intro pins s σ H Q I h
  refine wpAny_Call_Name_kw (ZdD I hgl hml boot_list ?_)
  refine PyProof.Rows.callWith_type1 ?_ (by rw[hs2]; rfl) (by rfl)
  rw[hs2]
  show wpAny _ _ (spliced ((false,eval (.Call (.Name "reversed" p) [e1] [] pos) X.env)::backTo pos2 (starEach [] X.env))) _ _ s
  refine Calls.spliced_cons ?_
  refine wpAny_Call_Name_kw (ZdD I hg hm PyProof.Rows.Boot.«reversed» (PyProof.Rows.callWith_type1 (thn (ha pos pins s σ H _ I h) λus s1 ⟨vs,H1,I1,r1,q1⟩=>?_) (by rw[hs]; rfl) (by rfl)))
  obtain ⟨a,xs,e,hq,q⟩:=q1
  subst e
  obtain ⟨u,rfl,ru⟩:=ZgR r1
  cases (show u=Value.ref a from ru)
  obtain ⟨its,rv,pl,hz⟩:=I1.list hq
  have hl:=rv.length
  obtain ⟨oa,hoa,_⟩:=id pl.isList
  refine call_reversed_list pl.isList ?_
  refine Calls.spliced_nil ?_
  have hI:({ s1 with heap:=s1.heap.push (revObj a ((its.toArray.size:Int)-1)) }:Shared).heap.IsRevIter s1.heap.objs.size a ((its.toArray.size:Int)-1):=⟨_,Heap.get?_push_size _ rfl,rfl,rfl⟩
  have I2:Inv X pins σ H1 { s1 with heap:=s1.heap.push (revObj a ((its.toArray.size:Int)-1)) }:=I1.kept (t':=s1.toks) λb o e=>Heap.get?_push_of_some _ e
  refine Zef (I1.ok.hd hcalm) (Qg (Heap.lt_size hoa)) hI (pl.isList.at λo e=>Heap.get?_push_of_some _ e) (by rw[Qe]; omega) λh' tk acc' c' hk hS' hacc=>?_
  have ei:=ZkH hacc
  subst ei
  have kp:∀b o',s1.heap.get? b=some o'->h'.get? b=some o':=λb o' e=>hk b o' (Qg (Heap.lt_size e)) (Heap.get?_push_of_some _ e)
  have hp:s1.heap.objs.size<=(s1.heap.push (revObj a ((its.toArray.size:Int)-1))).objs.size:=by rw[Heap.size_push]; omega
  refine ⟨.ref _,_,I1.laid (t':=tk) (h':=h') kp hp ?_,rfl,q _ (I1.hok.fresh hp)⟩
  exact ⟨by rw[Ue]; exact hz,_,c',ZkG rv,hS'⟩
end
end L2
namespace My
open PySem L2 PyProof.Rows
section
variable{κ:KX}
def QN(κ:KX)(D:Int)(M:Nat)(x:κ.F):Prop:=match κ with
  | .q=>∃X:Int,x=Rat.divInt X D/\X.natAbs<=M
  | .r _ _=>True
theorem QN.mono{D:Int}{M N:Nat}{x:κ.F}(h:QN κ D M x)(l:M<=N):QN κ D N x:=by
  cases κ with
  | r p hp=>exact trivial
  | q=>obtain ⟨X,e,hX⟩:=h; exact ⟨X,e,Q0 hX l⟩
theorem QN.mul{D E:Int}{M N:Nat}{x y:κ.F}(h:QN κ D M x)(g:QN κ E N y):QN κ (D*E) (M*N) (x*y):=by
  cases κ with
  | r p hp=>exact trivial
  | q =>
    obtain ⟨X,rfl,hX⟩:=h
    obtain ⟨Y,rfl,hY⟩:=g
    exact ⟨X*Y,Wo _ _,by rw[Qt]; exact Qm hX hY⟩
theorem QN.add{D:Int}(hD:0<D){M N:Nat}{x y:κ.F}(h:QN κ D M x)(g:QN κ D N y):QN κ D (M+N) (x+y):=by
  cases κ with
  | r p hp=>exact trivial
  | q =>
    obtain ⟨X,rfl,hX⟩:=h
    obtain ⟨Y,rfl,hY⟩:=g
    refine ⟨X+Y,?_,Q0 (Int.natAbs_add_le X Y) (Nat.add_le_add hX hY)⟩
    show Rat.divInt X D+Rat.divInt Y D=_
    rw[Rat.divInt_add_divInt _ _ ⋯ ⋯,Qx (Ua (Qp hD hD)) ⋯,<-Int.add_mul,Qr]
theorem QN.zero{D:Int}{M:Nat}:QN κ D M 0:=by
  cases κ with
  | r p hp=>exact trivial
  | q=>exact ⟨0,(Rat.zero_divInt D).symm,Qh _⟩
theorem QN.b1{D:Int}(hD:0<D)(lD:D.natAbs<2^3000){M:Nat}(lM:M<2^3000){x:κ.F}(h:QN κ D M x):B1 κ x:=by
  cases κ with
  | r p hp=>exact trivial
  | q =>
    obtain ⟨X,rfl,hX⟩:=h
    obtain ⟨d1,d2⟩:=Zcg X hD
    refine ⟨?_,?_⟩
    · show Bits 1000000 (Rat.divInt X D).num
      exact ZeH d2 ((Bits.of (n:=3000) (Qs hX lM)).up ∅) (Zgi X hD)
    · show Bits 4000 ((Rat.divInt X D).den:Int)
      exact ZeH d1 ((Bits.of (n:=3000) lD).up ∅) (λz=>by omega)
theorem Zhl{κ:KX}:QN κ 1 1 1:=by
  cases κ with
  | r p hp=>exact trivial
  | q=>exact ⟨1,rfl,Q4 _⟩
theorem ZpS{t b:Int}(h0:1<=b)(h:b<=4)(ht:t.natAbs<=9):QN .q 12 108 (Rat.divInt t b):=by
  rcases (by omega:b=1\/b=2\/b=3\/b=4) with rfl | rfl | rfl | rfl
  · exact ⟨t*12,by rw[Qx ∅ ∅]; omega,⋯⟩
  · exact ⟨t*6,by rw[Qx ∅ ∅]; omega,⋯⟩
  · exact ⟨t*4,by rw[Qx ∅ ∅]; omega,⋯⟩
  · exact ⟨t*3,by rw[Qx ∅ ∅]; omega,⋯⟩
noncomputable def pI(F G:List κ.F)(i:Nat):Nat->Nat->κ.F
  | 0,_=>0
  | j+1,k=>pI F G i j k+(if i+j=k then F.getD i 0*G.getD j 0 else 0)
noncomputable def pO(F G:List κ.F):Nat->Nat->κ.F
  | 0,_=>0
  | i+1,k=>pO F G i k+pI F G i G.length k
noncomputable def ZqE(F G:List κ.F)(i j:Nat):List κ.F:=(List.range (F.length+G.length)).map λk=>pO F G i k+pI F G i j k
noncomputable def Zqw(f:List κ.F)(d i:Nat):List κ.F:=(List.range d).map λc=>if c+1=d then 0-f.getD i 0 else if c+1=i then 1 else 0
noncomputable def ZqF(f:List κ.F):List (List κ.F):=(List.range (f.length-1)).map λi=>Zqw f (f.length-1) i
noncomputable def atE:List (List κ.F)->Nat->Nat->Nat->κ.F
  | [],_,_,_=>0
  | f::fs,s,i,j=>if s<=i/\i<s+(f.length-1)/\j+1=s+(f.length-1) then 0-f.getD (i-s) 0 else if s<=i/\i<s+(f.length-1)/\s<=j then (if i=j+1 then 1 else 0) else atE fs (s+(f.length-1)) i j
end
end My
namespace My
open PySem L2 PyProof.Rows
theorem Zjr{p:Int}(h:p=2\/p=3\/p=5\/p=7\/p=11\/p=97):M2.Prm p:=by
  refine ⟨⋯,λd h1 h2 hd=>?_⟩
  have hl:d<10:=by
    refine Ux λz=>?_
    have:=M2.sq_mono (a:=10) ⋯ z
    omega
  have e:=Wz hd
  have s2:=M2.sq_mono (a:=2) ⋯ h1
  rcases (by omega:d=2\/d=3\/d=4\/d=5\/d=6\/d=7\/d=8\/d=9) with rfl | rfl | rfl | rfl | rfl | rfl | rfl | rfl <;> omega
theorem Zpw(c:Int):∃m:Int,atI [V.int 2,V.int 3,V.int 5,V.int 7,V.int 11,V.int 97] (c/3%6)=some (.int m)/\PK m:=by
  rcases (by omega:c/3%6=0\/c/3%6=1\/c/3%6=2\/c/3%6=3\/c/3%6=4\/c/3%6=5) with e | e | e | e | e | e <;> rw[e]
  · exact ⟨2,rfl,.inr ⟨Zjr ⋯,∅⟩⟩
  · exact ⟨3,rfl,.inr ⟨Zjr ⋯,∅⟩⟩
  · exact ⟨5,rfl,.inr ⟨Zjr ⋯,∅⟩⟩
  · exact ⟨7,rfl,.inr ⟨Zjr ⋯,∅⟩⟩
  · exact ⟨11,rfl,.inr ⟨Zjr ⋯,∅⟩⟩
  · exact ⟨97,rfl,.inr ⟨Zjr ⋯,∅⟩⟩
inductive Zdv (vs:List V) (H:Hp) (Q:VK) (zE:XK):Prop
  | mk (n:Int) (_:vs=[.int n]) (_:2<=n) (_:n<=999983) (_:∀p:Int,PK p->Q (.int p) H):Zdv vs H Q zE
inductive ZcC (vs:List V) (H:Hp) (Q:VK) (zE:XK):Prop
  | mk (c:Int) (_:vs=[.int c]) (_:∀(H':Hp) (p:Int),Same H H'->PK p->Q (.int p) H'):ZcC vs H Q zE
inductive Zbj (vs:List V) (H:Hp) (Q:VK) (zE:XK):Prop
  | mk (κ:KX) (t:Int) (x:κ.F) (_:vs=[.int κ.P,.int t]) (_:NumV κ t x) (_:∀H' v,Same H H'->NR κ H' v x->Q v H'):Zbj vs H Q zE
inductive Zc0 (vs:List V) (H:Hp) (Q:VK) (zE:XK):Prop
  | mk (κ:KX) (u:V) (x:κ.F) (_:vs=[.int κ.P,u]) (_:NR κ H u x) (_:Q (.bl true) H):Zc0 vs H Q zE
theorem Zmq{p:Prop}[Decidable p]{Q:V->Hp->Prop}{H:Hp}(h:p)(k:Q (.bl true) H):Q (.bl (decide p)) H:=by rw[decide_eq_true h]; exact k
inductive ZcD (vs:List V) (H:Hp) (Q:VK) (zE:XK):Prop
  | mk (κ:KX) (a:Addr) (xs:List V) (f:List κ.F) (_:vs=[.int κ.P,.ref a,.int (f.length:Int)]) (_:H a=some (.lst xs)) (_:AllG (NR κ H) xs f) (_:Q (.bl true) H):ZcD vs H Q zE
end My
namespace My
open PySem L2 PyProof.Rows
theorem ZlP{n:Nat}(h:1<=n):ixN n (-1)=some (n-1):=by
  unfold ixN
  rw[if_neg ∅,if_pos ⋯]
  congr 1
  omega
theorem Zgw{κ:KX}{l:List κ.F}{i:Nat}(h:i<l.length):l[i]?=some (l.getD i 0):=by
  rw[Q3,Q2 h]; rfl
theorem Zdw{κ:KX}{H:Hp}{xs:List V}{f:List κ.F}(h:AllG (NR κ H) xs f){i:Nat}(hi:i<f.length):∃v,xs[i]?=some v/\NR κ H v (f.getD i 0):=by
  obtain ⟨v,hv⟩:=Zax (Zgw hi) h.1.symm
  obtain ⟨x,hx,nx⟩:=h.get hv
  rw[Zgw hi] at hx
  cases hx
  exact ⟨v,hv,nx⟩
end My
namespace My
open PySem L2 PyProof.Rows
inductive Zdx (vs:List V) (H:Hp) (Q:VK) (zE:XK):Prop
  | mk (κ:KX) (c:Int) (_:vs=[.int κ.P,.int c]) (_:∀H' v (x:κ.F),Same H H'->NR κ H' v x->QN κ 12 108 x->Q v H'):Zdx vs H Q zE
theorem Zgx{κ:KX}{H:Hp}{xs:List V}{f:List κ.F}(h:AllG (NR κ H) xs f)(r:Nat):AllG (NR κ H) (xs.take r) (f.take r):=by
  obtain ⟨l,h⟩:=h
  refine ⟨by rw[Qi,Qi,l],λi v d hv hd=>?_⟩
  rw[Wp] at hv hd
  by_cases c:i<r
  · rw[if_pos c] at hv hd; exact h i v d hv hd
  · rw[if_neg c] at hv; cases hv
end My
namespace My
open PySem L2 PyProof.Rows
def ZoA{κ:KX}(f:List κ.F):Prop:=1<=f.length/\f.length<=8/\∀x∈f,B1 κ x
structure ChOk {κ:KX} (fs:List (List κ.F)):Prop where
  l1:1<=fs.length
  l7:fs.length<=7
  ok:∀f∈fs,ZoA f
structure Chn (κ:KX) (H:Hp) (ca:Addr) (n:Nat):Prop where
  ex:∃(as:List Addr) (fs:List (List κ.F)),H ca=some (.lst (as.map V.ref))/\RowsX κ H as fs/\fs.length<=n/\∀f∈fs,ZoA f
noncomputable abbrev Km1(κ:KX):κ.F:=0-1
theorem ZoB{κ:KX}:NumV κ (-1) (Km1 κ):=by
  cases κ with
  | q =>
    show Rat.num (0-1:Rat) = -1/\Rat.den (0-1:Rat)=1
    have e:(0-1:Rat) = -1:=by grind
    rw[e]; exact ⟨rfl,rfl⟩
  | r p h=>exact ⟨∅,by
      show ((Fin.val (Km1 (.r p h)):Nat):Int)=_
      have h2:=h.two
      have e:Fin.val (Km1 (.r p h))=(p-Fin.val (K1 (.r p h))+Fin.val (K0 (.r p h)))%p:=rfl
      rw[e,Zgk,ZeJ,Nat.add_zero,Nat.mod_eq_of_lt ⋯]
      have:(-1:Int)%p=(p:Int)-1:=by
        rw[<-Int.add_emod_right,Ub ⋯ ⋯]; omega
      rw[this]; omega⟩
theorem ZlQ{κ:KX}(x:κ.F):Km1 κ*x=0-x:=by grind
theorem Zpx{κ:KX}:B1 κ (Km1 κ):=Zmo ((Zhl (κ:=κ)).b1 ∅ ∅ ∅)
end My
namespace My
open PySem L2 PyProof.Rows
section
variable{κ:KX}
noncomputable def Zgy(f g:List κ.F):Nat->κ.F
  | 0=>0
  | k+1=>Zgy f g k+f.getD k 0*g.getD k 0
noncomputable def ZfD(f g:List κ.F):κ.F:=Zgy f g f.length
theorem ZkI{f g:List κ.F}{i:Nat}{x y:κ.F}(hx:f[i]?=some x)(hy:g[i]?=some y):Zgy f g (i+1)=Zgy f g i+x*y:=by
  show Zgy f g i+f.getD i 0*g.getD i 0=_
  rw[Q3,Q3,hx,hy]; rfl
theorem Zgz{D E:Int}{M N:Nat}{f g:List κ.F}(hDE:0<D*E)(hf:∀x∈f,QN κ D M x)(hg:∀x∈g,QN κ E N x):∀k,k<=f.length->k<=g.length->QN κ (D*E) (k*(M*N)) (Zgy f g k)
  | 0,_,_=>QN.zero
  | k+1,h1,h2=>by
    rw[Nat.succ_mul]
    have a:f.getD k 0∈f:=by rw[Q3,Q2 (show k<f.length by omega)]; exact Qf _
    have b:g.getD k 0∈g:=by rw[Q3,Q2 (show k<g.length by omega)]; exact Qf _
    exact QN.add hDE (Zgz hDE hf hg k ⋯ ⋯) (QN.mul (hf _ a) (hg _ b))
end
theorem ZiG{x:Rat}{A:Int}(hA:0<A)(h:(x.den:Int) ∣ A):x=Rat.divInt (x.num*(A/x.den)) A:=by
  have hd:=(Za6 x).pos
  obtain ⟨c,rfl⟩:=h
  rw[Int.mul_ediv_cancel_left c ⋯]
  have:Rat.divInt x.num x.den=Rat.divInt (x.num*c) (x.den*c):=by
    rw[Qx ⋯ ⋯]
    rw[Qr,Qo c]
  rw[<-this,Qv]
theorem Zh2{X Y D:Int}(hD:0<D):Rat.divInt X D+Rat.divInt Y D=Rat.divInt (X+Y) D:=by
  rw[Rat.divInt_add_divInt _ _ ⋯ ⋯,Qx (Ua (Qp hD hD)) ⋯,<-Int.add_mul,Qr]
def tS(f g:List Rat)(A C:Int):Nat->Int
  | 0=>0
  | k+1=>tS f g A C k+(f.getD k 0).num*(A/(f.getD k 0).den)*(g.getD k 0).num*(C/(g.getD k 0).den)
theorem Zmr{f g:List Rat}{A C:Int}(hA:0<A)(hC:0<C)(dA:∀x∈f,(x.den:Int) ∣ A)(dC:∀x∈g,(x.den:Int) ∣ C):∀k,k<=f.length->k<=g.length->Rat.divInt (tS f g A C k) (A*C)=Zgy (κ:=.q) f g k
  | 0,_,_=>Rat.zero_divInt _
  | k+1,h1,h2=>by
    have a:f.getD k 0∈f:=by rw[Q3,Q2 (show k<f.length by omega)]; exact Qf _
    have b:g.getD k 0∈g:=by rw[Q3,Q2 (show k<g.length by omega)]; exact Qf _
    have ih:=Zmr hA hC dA dC k ⋯ ⋯
    have e1:=ZiG hA (dA _ a)
    have e2:=ZiG hC (dC _ b)
    have e3:(f.getD k 0)*(g.getD k 0)=Rat.divInt ((f.getD k 0).num*(A/(f.getD k 0).den)*(g.getD k 0).num*(C/(g.getD k 0).den)) (A*C):=by
      conv=>lhs; rw[e1,e2]
      rw[Wo,<-Qr]
    show Rat.divInt (tS f g A C k+_) (A*C)=Zgy (κ:=.q) f g k+(f.getD k 0:Rat)*(g.getD k 0:Rat)
    rw[<-Zh2 (Qp hA hC),ih,e3]
def W60(f:List Rat):Prop:=∀x∈f,x.num.natAbs<=10^500/\x.den<=10^200
inductive ZbW (vs:List V) (H:Hp) (Q:VK) (zE:XK):Prop
  | mk (s:Addr) (t b:Int) (_:vs=[.ref s,.int t,.int b]) (_:0<b) (_:b.natAbs<=10^1000) (_:∀(r:Addr) (x y:Int),H r=none->Fc x y->x*b=t*y->Q (.ref r) (upd H r (.tup [.int x,.int y]))):ZbW vs H Q zE
inductive ZgA (CF:Addr) (vs:List V) (H:Hp) (Q:VK) (zE:XK):Prop
  | mk (s r1 r2:Addr) (xs ys:List V) (f g:List Rat) (B C:Int) (_:vs=[.ref s,.ref r1,.ref r2]) (_:FrA CF H s) (_:H r1=some (.lst xs)) (_:H r2=some (.lst ys)) (_:AllG (NR .q H) xs f) (_:AllG (NR .q H) ys g) (_:f.length=g.length) (_:f.length<=100) (_:W60 f) (_:W60 g) (_:0<B) (_:B.natAbs<=10^200) (_:(∀x∈f,((Rat.den x:Nat):Int) ∣ B)) (_:0<C) (_:C.natAbs<=10^200) (_:(∀x∈g,((Rat.den x:Nat):Int) ∣ C)) (_:∀H' v,Same H H'->NR .q H' v (ZfD (κ:=.q) f g)->Q v H'):ZgA CF vs H Q zE
inductive ZgB (CR:Addr) (vs:List V) (H:Hp) (Q:VK) (zE:XK):Prop
  | mk (p:Nat) (hp:PrN p) (s r1 r2:Addr) (xs ys:List V) (f g:List (KX.r p hp).F) (_:vs=[.ref s,.ref r1,.ref r2]) (_:ReA CR p H s) (_:H r1=some (.lst xs)) (_:H r2=some (.lst ys)) (_:AllG (NR (.r p hp) H) xs f) (_:AllG (NR (.r p hp) H) ys g) (_:f.length=g.length) (_:f.length<=100) (_:∀H' v,Same H H'->NR (.r p hp) H' v (ZfD f g)->Q v H'):ZgB CR vs H Q zE
def ZgC(P:Program)(w:World)(K:PySem.W.Frag)(mg:Str->Option Value)(base:Heap)(CF CR:Addr):Prop :=
  ∀(κ:KX) (H:Hp) (s:Addr),KdX CF CR κ H s->∃C dx fs ps dvs sp,H s=some (.ins C dx fs)/\Cls K C/\HasM P w K mg base C "sum_of_products" 3 ps dvs sp/\fs.lookup ("sum_of_products" : Str)=none/\dvs=[] ∧
    ∀(H':Hp) (r1 r2:Addr) (xs ys:List V) (f g:List κ.F) (D E M N:Nat) (Q:VK),Same H H'->H' r1=some (.lst xs)->H' r2=some (.lst ys)->AllG (NR κ H') xs f->AllG (NR κ H') ys g->f.length=g.length->f.length<=100->(∀x∈f,QN κ (D:Int) M x)->(∀x∈g,QN κ (E:Int) N x)->0<D->D<=10^200->0<E->E<=10^200->M<=10^500->N<=10^500->(∀H'' v,Same H' H''->NR κ H'' v (ZfD f g)->Q v H'')->sp [.ref s,.ref r1,.ref r2] H' Q E0
theorem Zms{D M:Nat}(hD:0<D)(lD:D<=10^200)(lM:M<=10^500){f:List Rat}(h:∀x∈f,QN .q (D:Int) M x):W60 f/\∀x∈f,((Rat.den x:Nat):Int) ∣ (D:Int):=by
  refine ⟨λx hx=>?_,λx hx=>?_⟩
  · obtain ⟨X,e,hX⟩:=h x hx
    have e:x=Rat.divInt X D:=e
    obtain ⟨d1,d2⟩:=Zcg X (show (0:Int)<(D:Int) by omega)
    rw[<-e] at d1 d2
    refine ⟨?_,?_⟩
    · by_cases z:X=0
      · have:=Zgi X (show (0:Int)<(D:Int) by omega) z
        rw[<-e] at this
        rw[this]; exact Qh _
      · exact Q0 (ZaV d2 z) (Q0 hX lM)
    · have:=ZaV d1 (show (D:Int)≠0 by omega)
      rw[Qy,Qy] at this
      omega
  · obtain ⟨X,e,hX⟩:=h x hx
    have e:x=Rat.divInt X D:=e
    rw[e]
    exact (Zcg X (show (0:Int)<(D:Int) by omega)).1
theorem ZdR{n i:Nat}(h:n<=10^i)(hi:i<=1000:=by decide):n<=10^1000:=Q0 h (Qd ∅ hi)
theorem Zdd{n i:Nat}(h:n<=10^i)(hi:i<=2000:=by decide):n<=10^2000:=Q0 h (Qd ∅ hi)
theorem Zmt:10^2000<2^8000:=by decide +kernel
theorem Znu{i j:Int}(h:i.natAbs<=10^2000)(h':j.natAbs<=10^2000):IntMulOk i j :=
  .of_bits (Q0 (Zdk (n:=8000) (Qs h Zmt)) ∅) (Q0 (Zdk (n:=8000) (Qs h' Zmt)) ∅)
theorem Zpy{a b:Int}{i j:Nat}(ha:a.natAbs<=10^i)(hb:b.natAbs<=10^j):(a*b).natAbs<=10^(i+j):=by
  rw[Qt,U0]; exact Qm ha hb
theorem Zmu{A b:Int}:(A/b).natAbs<=A.natAbs:=Int.natAbs_ediv_le_natAbs A b
end My
namespace My
open PySem L2 PyProof.Rows
section
variable{P:Program}{w:World}{K:PySem.W.Frag}{mg:Str->Option Value}{base:Heap}{CF CR cN:Addr}
theorem Zh3{tk:Tok}(h:HereD K CF "number" "Fractions.number" ZaM #[.int 1 tk]) (c:ExcC K mg "NoNumber" cN) (h_divisor:Has P w K mg base "divisor" 1 ["one", "other"] ZaP):HasMX P w K mg base CF "number" 2 ["self", "top", "bottom"] [] ZbW:=by
  refine h.hasMX (ds:=[]) .nil (λf fd T F=>F.binds λ_ _ _ _ _ _ us hl=>by obtain ⟨_,_,_,rfl⟩:=Zew (show us.length=3 by simpa using hl); exact ⟨_,rfl,rfl⟩) λf fd T F=>?_
  refine F.okx sc_Fractions_number (λvs H Q E h=>?_) (λcdv A outer s H vs Q E hr h=>?_)
  · obtain ⟨_,_,_,rfl,_⟩:=h
    rfl
  obtain ⟨sf,t,b,rfl,hb,lb,k⟩:=h
  have nd:=sc_Fractions_number.nd
  refine ⟨_,(Zab (ZaB (Zap Za9 (pv 2) Zad (Zas _)) (Zae (Zcq c ZeX rfl (by rfl) (Zaa ZbC Zac))) Zat)
    (Zab (Zaj (i:=3) nd rfl (Or.inl rfl) (Zan h_divisor hr (by rfl) (Zaa (pv 1) (Zaa (pv 2) Zac))))
    (Zab (ZaB (Zap ZdW (pv 2) Zad (Zas _)) (Zae (Zaj (i:=3) nd rfl (Or.inl rfl) (ZgQ Zet (pv 3)))) Zat)
    (Zae (Zal (Za2 (Zaa (Zao ZeF (pv 1) (pv 3)) (Zaa (Zao ZeF (pv 2) (pv 3)) Zac)))))))),?_⟩
  refine ⟨_,rfl,rfl,_,rfl,?_⟩
  refine Zbr (λz=>absurd z ⋯) (λ_=>?_)
  refine ⟨_,rfl,_,rfl,t,b,rfl,?_⟩
  refine ⟨_,rfl,_,_,rfl,rfl,_,rfl,?_⟩
  refine Zbq (λhn=>absurd hn ⋯) (λhn=>?_)
  have hg:=M3.gcd_ne (a:=t) (b:=b) ⋯
  have gl:Int.gcd t b<=b.natAbs:=U2 ⋯ (U3.mpr (W4 t b))
  have hg1:(Int.gcd t b:Int)≠0/\((Int.gcd t b:Int)).natAbs<=10^1000:=⟨⋯,Q0 (show _<=b.natAbs from gl) lb⟩
  obtain ⟨l1,l2,l3,l4,l5⟩:=M3.low (t:=t) hb
  refine ⟨_,rfl,_,rfl,_,_,rfl,rfl,hg1,_,rfl,_,rfl,_,_,rfl,rfl,hg1,(by show 2<=sizeLine; decide),λr hr'=>?_⟩
  exact k r _ _ hr' ⟨l2,l1⟩ l3
end
section
variable{P:Program}{w:World}{K:PySem.W.Frag}{mg:Str->Option Value}{base:Heap}{CF CR cN:Addr}
theorem sc_Fractions_sum_of_products:FnScope ["self", "some", "others", "ahead", "behind", "total", "one", "other"] ["self", "some", "others"] (Zah ZaK):=‹2›
theorem ZlR(h:HereM K CF "sum_of_products" "Fractions.sum_of_products" ZaK) (cl:Cls K CF) (Tz:mg "zip" = none) (hB:HasM P w K mg base CF "common_bottom" 2 ["self", "some"] [] (ZbA K)) (hN:HasMX P w K mg base CF "number" 2 ["self", "top", "bottom"] [] ZbW):HasM P w K mg base CF "sum_of_products" 3 ["self", "some", "others"] [] (ZgA CF):=by
  refine h.hasM (λf fd F=>F.binds λ_ _ _ _ _ _ us hl=>by obtain ⟨_,_,_,rfl⟩:=Zew hl; exact rfl) λf fd F=>F.ok sc_Fractions_sum_of_products (λvs H Q E h=>?_) (λcdv A outer s H vs Q E hr h=>?_)
  · obtain ⟨_,_,_,_,_,_,_,_,_,rfl,_⟩:=h
    rfl
  obtain ⟨sf,r1,r2,xs,ys,f1,f2,B1',C1',rfl,⟨dx,hs⟩,h1,h2,al1,al2,lfg,l100,w1,w2,b0,bl,bd,c0,cl',cd,k⟩:=h
  have nd:=sc_Fractions_sum_of_products.nd
  refine ⟨_,(Zab (Zaj (i:=3) nd rfl (Or.inl rfl) (ZaZ (pv 0) hr (Zaa (pv 1) Zac)))
    (Zab (Zaj (i:=4) nd rfl (Or.inl rfl) (ZaZ (pv 0) hr (Zaa (pv 2) Zac)))
    (Zab (Zaj (i:=5) nd rfl (Or.inl rfl) Zad)
    (Zab (ZaI PassesOwn.never rfl (Zkc (by rfl) Tz (Zaa (pv 1) (Zaa (pv 2) Zac))) (Zmf rfl (Zc5 (Zar (i:=6) nd rfl (Or.inl rfl)) (Zc5 (Zar (i:=7) nd rfl (Or.inl rfl)) Zhy))) (Zae (ZjG (i:=5) nd rfl (Or.inl rfl) (Zao ZaA (Zao ZaA (Zao ZaA (Zam Zaq (pv 6) Zad (λ_ _=>rfl)) (Zao ZeF (pv 3) (Zam Zaq (pv 6) Zad (λ_ _=>rfl)))) (Zam Zaq (pv 7) Zad (λ_ _=>rfl))) (Zao ZeF (pv 4) (Zam Zaq (pv 7) Zad (λ_ _=>rfl)))) Zmg)))
    (Zae (Zal (ZaS (pv 0) Zdl hr (Zaa (pv 5) (Zaa (Zao ZaA (pv 3) (pv 4)) Zac))))))))),?_⟩
  have lx:=al1.1
  have ly:=al2.1
  have bitsB:∀ {Z:Int},Z.natAbs<=10^200->Bits 4000 Z:=fun {Z} hz=>Bits.of (Qs hz (Q7 (show 10^200<2^1000 by decide) (Qd ∅ ∅)))
  refine ⟨_,rfl,sf,CF,dx,[],_,_,ZbA K,rfl,hs,cl,hB,rfl,_,rfl,sf,r1,xs,f1,B1',rfl,h1,al1,b0,bitsB bl,bd,λA ⟨hA,dA,mA⟩=>?_⟩
  refine ⟨_,rfl,sf,CF,dx,[],_,_,ZbA K,rfl,hs,cl,hB,rfl,_,rfl,sf,r2,ys,f2,C1',rfl,h2,al2,c0,bitsB cl',cd,λC ⟨hC,dC,mC⟩=>?_⟩
  have lA:A.natAbs<=10^200:=Q0 (ZaV (mA _ bd) ⋯) bl
  have lC:C.natAbs<=10^200:=Q0 (ZaV (mC _ cd) ⋯) cl'
  refine ⟨_,rfl,_,rfl,r1,r2,rfl,⟨_,SqL.of h1⟩,⟨_,SqL.of h2⟩,?_⟩
  refine Znb (xs:=xs) (ys:=ys) (λi σ H2=>∃z6 z7:Option V,σ=[some (.ref sf),some (.ref r1),some (.ref r2),some (.int A),some (.int C),some (.int (tS f1 f2 A C i)),z6,z7]/\Same H H2) ⟨none,none,rfl,Same.refl H⟩ ?_ ?_ ?_
  · rintro i σ H2 ⟨z6,z7,rfl,S⟩
    exact ⟨SqL.of (S _ _ h1),SqL.of (S _ _ h2)⟩
  · rintro i u v Tp σ H2 hx hy nT ⟨z6,z7,rfl,S⟩
    obtain ⟨x,hx',t,rfl,ht⟩:=al1.get hx
    obtain ⟨y,hy',t',rfl,ht'⟩:=al2.get hy
    have ex:f1.getD i 0=x:=by rw[Q3,hx']; rfl
    have ey:f2.getD i 0=y:=by rw[Q3,hy']; rfl
    have hb:=(Za6 x).pos
    have hd:=(Za6 y).pos
    obtain ⟨la,lb⟩:=w1 x (Q8 hx')
    obtain ⟨lc,ld⟩:=w2 y (Q8 hy')
    have ST:=Zag nT (.tup [.ref t,.ref t'])
    refine ⟨Tp,_,rfl,SqT.of Zaf,rfl,_,_,rfl,_,_,rfl,rfl,?_⟩
    generalize upd H2 Tp (.tup [.ref t,.ref t'])=H3 at *
    have S3:=S.trans ST
    have qt:=SqT.of (K:=K) (S3 _ _ ht)
    have qu:=SqT.of (K:=K) (S3 _ _ ht')
    have eA:A.fdiv (x.den:Int)=A/x.den:=Int.fdiv_eq_ediv_of_nonneg _ ⋯
    have eC:C.fdiv (y.den:Int)=C/y.den:=Int.fdiv_eq_ediv_of_nonneg _ ⋯
    have lA':(A.fdiv (x.den:Int)).natAbs<=10^200:=by rw[eA]; exact Q0 Zmu lA
    have lC':(C.fdiv (y.den:Int)).natAbs<=10^200:=by rw[eC]; exact Q0 Zmu lC
    have m1:=Zpy la lA'
    have m2:=Zpy m1 lc
    refine ⟨_,rfl,_,rfl,t,_,_,_,rfl,rfl,qt,rfl,_,rfl,_,rfl,t,_,_,_,rfl,rfl,qt,rfl,_,_,rfl,rfl,⟨(show (x.den:Int)≠0 by omega),ZdR (by rw[Qy]; exact lb)⟩,_,_,rfl,rfl,Znu (Zdd la) (Zdd lA'),_,rfl,t',_,_,_,rfl,rfl,qu,rfl,_,_,rfl,rfl,Znu (Zdd m1) (Zdd lc),_,rfl,_,rfl,t',_,_,_,rfl,rfl,qu,rfl,_,_,rfl,rfl,⟨(show (y.den:Int)≠0 by omega),ZdR (by rw[Qy]; exact ld)⟩,_,_,rfl,rfl,Znu (Zdd m2) (Zdd lC'),_,_,rfl,rfl,?_⟩
    refine ⟨some (.ref t),some (.ref t'),?_,S3⟩
    have e:tS f1 f2 A C (i+1)=tS f1 f2 A C i+x.num*(A.fdiv (x.den:Int))*y.num*(C.fdiv (y.den:Int)):=by
      show tS f1 f2 A C i+_=_
      rw[ex,ey,eA,eC]
    rw[e]
    rfl
  · rintro i σ H2 hi ⟨z6,z7,rfl,S⟩
    have hi:i=f1.length:=by omega
    subst hi
    have hAC:0<A*C:=Qp hA hC
    refine ⟨_,rfl,sf,CF,dx,[],_,_,ZbW,rfl,S _ _ hs,cl,hN,rfl,_,rfl,_,rfl,_,rfl,_,_,rfl,rfl,ZpR (ZdR lA) (ZdR lC),sf,_,_,rfl,hAC,ZdR (Zpy lA lC),λr x y nr fc e=>?_⟩
    obtain ⟨q,q1,q2⟩:=ZiA fc
    have y0:=fc.pos
    have eq:q=ZfD (κ:=.q) f1 f2:=by
      have t:=Zmr hA hC dA dC f1.length (Q4 _) ⋯
      have:q=Rat.divInt (tS f1 f2 A C f1.length) (A*C):=by
        rw[<-Qv q,q1,q2,Qx ⋯ ⋯]
        exact e
      exact this.trans t
    refine k _ _ (S.trans (Zag nr _)) ⟨r,rfl,?_⟩
    rw[Zaf,<-eq]
    show some (HO.tup [V.int x,V.int y])=some (HO.tup [V.int (Rat.num q),V.int ((Rat.den q:Nat):Int)])
    rw[q1,q2]
theorem Zch:FnScope ["self", "some", "others"] ["self", "some", "others"] (Zah ZaT):=‹2›
theorem ZlS(h:HereM K CR "sum_of_products" "Rests.sum_of_products" ZaT) (cl:Cls K CR) (nP:NoAttr K CR "prime") (Tz:mg "zip" = none) (Ts:mg "sum" = none):HasM P w K mg base CR "sum_of_products" 3 ["self", "some", "others"] [] (ZgB CR):=by
  refine h.hasM (λf fd F=>F.binds λ_ _ _ _ _ _ us hl=>by obtain ⟨_,_,_,rfl⟩:=Zew hl; exact rfl) λf fd F=>F.ok Zch (λvs H Q E h=>?_) (λcdv A outer s H vs Q E hr h=>?_)
  · obtain ⟨_,_,_,_,_,_,_,_,_,rfl,_⟩:=h
    rfl
  obtain ⟨p,hp,sr,r1,r2,xs,ys,f1,f2,rfl,⟨dx,hs⟩,h1,h2,al1,al2,lfg,l100,k⟩:=h
  refine ⟨_,(Zae (Zal (Zao Za1 (Zak (ZlC rfl) (by rfl) Ts boot_sum (Zaa (ZaX ["one", "other"] [] rfl (Zkc (by rfl) Tz (Zaa (pv 1) (Zaa (pv 2) Zac))) (by exact λ_ _ _ _=>(Zke (n:=2) K rfl rfl (Zc5 (Zar (i:=0) (show (["one", "other"]:List Str).Nodup by decide +kernel) rfl (Or.inl rfl)) (Zc5 (Zar (i:=1) (show (["one", "other"]:List Str).Nodup by decide +kernel) rfl (Or.inl rfl)) Zhy)))) (by exact λ_ _ _ _=>(Zao ZaA (pv 0) (pv 1))) trivial) Zac)) (ZeS (pv 0) rfl)))),?_⟩
  have lx:=al1.1
  have ly:=al2.1
  have h2':=hp.two
  refine ⟨_,rfl,_,rfl,r1,r2,rfl,⟨_,SqL.of h1⟩,⟨_,SqL.of h2⟩,?_⟩
  refine Zhd (K:=K) (a:=r1) (b:=r2) (xs:=xs) (ys:=ys) (λi zs H2=>Same H H2/\∃ms:List Int,zs=ms.map V.int/\(ms.sum%p:Int)=((Fin.val (Zgy f1 f2 i:Fin p):Nat):Int)) ⋯ ⟨Same.refl H,[],rfl,?_⟩ (λi zs H2 q=>⟨SqL.of (q.1 _ _ h1),SqL.of (q.1 _ _ h2)⟩) ?_ ?_
  · show (0:Int)%p=((Fin.val (K0 (.r p hp)):Nat):Int)
    rw[ZeJ]; simp
  · rintro i u v Tp zs H2 hx hy hl nT ⟨S,ms,rfl,es⟩
    obtain ⟨x,hx',e1⟩:=al1.get hx
    obtain ⟨y,hy',e2⟩:=al2.get hy
    have e1:u = .int (Fin.val (x:Fin p)):=e1
    have e2:v = .int (Fin.val (y:Fin p)):=e2
    subst e1 e2
    have ST:=Zag nT (.tup [.int (Fin.val (x:Fin p)),.int (Fin.val (y:Fin p))])
    generalize upd H2 Tp (.tup [.int (Fin.val (x:Fin p)),.int (Fin.val (y:Fin p))])=H3 at *
    refine ⟨_,rfl,_,rfl,_,_,rfl,rfl,Zba (ZaW hp x) (ZaW hp y),S.trans ST,ms++[(Fin.val (x:Fin p):Int)*Fin.val (y:Fin p)],by simp,?_⟩
    have ed:(Zgy f1 f2 (i+1):Fin p)=(Zgy f1 f2 i:Fin p)+(x:Fin p)*(y:Fin p):=ZkI hx' hy'
    rw[ed,Fin.val_add,Fin.val_mul,List.sum_append]
    simp only[List.sum_cons,List.sum_nil,Int.add_zero]
    rw[Int.add_emod,es,Wm,Int.natCast_add,Wm,We,Int.add_emod (Fin.val (Zgy f1 f2 i:Fin p):Int)]
    first | done | simp
  · rintro zs H2 hl ⟨S,ms,rfl,es⟩ D hD
    have S4:=S.trans (Zag hD (.lst (ms.map V.int)))
    refine ⟨D,_,rfl,SqL.of Zaf,?_⟩
    refine ⟨_,rfl,sr,CR,dx,_,_,rfl,S4 _ _ hs,cl,nP,ZbR p,_,_,rfl,rfl,(show (p:Int)≠0 by omega),?_⟩
    show Q (V.int (ms.sum.fmod p)) _
    refine k _ _ S4 ?_
    show V.int (ms.sum.fmod p)=V.int ((Fin.val (Zgy f1 f2 f1.length:Fin p):Nat):Int)
    rw[W5 _ ⋯,es]
    congr 4
    omega
theorem ZlT(kd:Kd K mg CF CR)(hF:HasM P w K mg base CF "sum_of_products" 3 ["self", "some", "others"] [] (ZgA CF)) (hR:HasM P w K mg base CR "sum_of_products" 3 ["self", "some", "others"] [] (ZgB CR)):ZgC P w K mg base CF CR:=by
  intro κ H s hk
  cases κ with
  | q =>
    obtain ⟨dx,h⟩:=hk
    refine ⟨CF,dx,[],_,_,_,h,kd.clF,hF,rfl,rfl,λH' r1 r2 xs ys f g D E M N Q S h1 h2 a1 a2 lfg l100 qf qg d0 dl e0 el ml nl k=>?_⟩
    obtain ⟨w1,v1⟩:=Zms d0 dl ml qf
    obtain ⟨w2,v2⟩:=Zms e0 el nl qg
    exact ⟨s,r1,r2,xs,ys,f,g,(D:Int),(E:Int),rfl,⟨dx,S _ _ h⟩,h1,h2,a1,a2,lfg,l100,w1,w2,⋯,by rw[Qy]; exact dl,v1,⋯,by rw[Qy]; exact el,v2,k⟩
  | r p hp =>
    obtain ⟨dx,h⟩:=hk
    exact ⟨CR,dx,fsR p,_,_,_,h,kd.clR,hR,Zdg _ ∅,rfl,λH' r1 r2 xs ys f g D E M N Q S h1 h2 a1 a2 lfg l100 qf qg d0 dl e0 el ml nl k=>⟨p,hp,s,r1,r2,xs,ys,f,g,rfl,⟨dx,S _ _ h⟩,h1,h2,a1,a2,lfg,l100,k⟩⟩
end
end My
namespace My
open PySem L2 PyProof.Rows
section
variable{κ:KX}
noncomputable def Zqx(κ:KX)(n i:Nat):List κ.F:=(List.range n).map λj=>if i=j then 1 else 0
noncomputable def ZoC(κ:KX)(n:Nat):List (List κ.F):=(List.range n).map (Zqx κ n)
noncomputable def Zqy(B:List (List κ.F))(j:Nat):List κ.F:=B.map λr=>r.getD j 0
noncomputable def Zpz(B:List (List κ.F))(m:Nat):List (List κ.F):=(List.range m).map (Zqy B)
noncomputable def mulT(A B:List (List κ.F))(m:Nat):List (List κ.F):=A.map λr=>(Zpz B m).map λc=>ZfD c r
noncomputable def Zhm(c:κ.F)(A:List (List κ.F)):List (List κ.F):=A.map λr=>r.map (c * ·)
noncomputable def Zqz(A B:List (List κ.F)):List (List κ.F):=List.zipWith (λf g=>List.zipWith (· + ·) f g) A B
theorem ZgD(c:κ.F)(A:List (List κ.F)):(Zhm c A).length=A.length:=by unfold Zhm; simp
theorem ZlU{m:Nat}{A:List (List κ.F)}(h:Wid m A)(c:κ.F):Wid m (Zhm c A):=λf hf=>by
  unfold Zhm at hf
  obtain ⟨r,hr,rfl⟩:=Ql.mp hf
  rw[Q1]; exact h r hr
end
structure TabL (κ:KX) (H:Hp) (a:Addr) (rs:List Addr) (R:List (List κ.F)) (m:Nat):Prop where
  l:H a=some (.lst (rs.map V.ref))
  r:RowsX κ H rs R
  w:Wid m R
  n1:1<=R.length
  n9:R.length<=100
  m9:m<=100
theorem TabL.same{κ:KX}{H H':Hp}{a:Addr}{rs:List Addr}{R:List (List κ.F)}{m:Nat}(h:TabL κ H a rs R m)(S:Same H H'):TabL κ H' a rs R m:=⟨S _ _ h.l,h.r.same S,h.w,h.n1,h.n9,h.m9⟩
theorem TabL.fst{κ:KX}{H:Hp}{a:Addr}{rs:List Addr}{R:List (List κ.F)}{m:Nat}(h:TabL κ H a rs R m):∃a0 xs f,rs[0]?=some a0/\R[0]?=some f/\H a0=some (.lst xs)/\AllG (NR κ H) xs f/\xs.length=m:=by
  have n1:=h.n1
  have hf:R[0]?=some R[0]:=Q2 ⋯
  obtain ⟨a0,ha⟩:=Zax hf h.r.1.symm
  obtain ⟨xs,hx,al⟩:=h.r.2 0 a0 _ ha hf
  exact ⟨a0,xs,_,ha,hf,hx,al,by rw[al.1]; exact h.w _ (Qf _)⟩
inductive ZcE (vs:List V) (H:Hp) (Q:VK) (zE:XK):Prop
  | mk (κ:KX) (a:Addr) (rs:List Addr) (R:List (List κ.F)) (m:Nat) (_:vs=[.ref a]) (_:TabL κ H a rs R m) (_:Q (.bl (decide (R.length=m))) H):ZcE vs H Q zE
inductive Zbo (cF:Addr) (vs:List V) (H:Hp) (Q:VK) (E:XK):Prop
  | mk (κ:KX) (a:Addr) (rs:List Addr) (R:List (List κ.F)) (m:Nat) (_:vs=[.ref a]) (_:TabL κ H a rs R m) (_:(R.length=m->Q .non H)) (_:(R.length≠m->E (.ref cF) none H)):Zbo cF vs H Q E
inductive Zeg (CF CR:Addr) (vs:List V) (H:Hp) (Q:VK) (zE:XK):Prop
  | mk (κ:KX) (s a:Addr) (cv:V) (c:κ.F) (rs:List Addr) (R:List (List κ.F)) (m:Nat) (_:vs=[.ref s,cv,.ref a]) (_:KdX CF CR κ H s) (_:NR κ H cv c) (_:B1 κ c) (_:TabL κ H a rs R m) (_:AllR (B1 κ) R) (_:∀(H':Hp) (D:Addr) (rs':List Addr),Same H H'->TabL κ H' D rs' (Zhm c R) m->(∀a∈rs',H a=none)->H D=none->Q (.ref D) H'):Zeg CF CR vs H Q zE
inductive ZbK (CF CR:Addr) (vs:List V) (H:Hp) (Q:VK) (zE:XK):Prop
  | mk (κ:KX) (s a:Addr) (rs:List Addr) (R:List (List κ.F)) (m:Nat) (D M:Nat) (_:vs=[.ref s,.ref a]) (_:KdX CF CR κ H s) (_:TabL κ H a rs R m) (_:AllR (QN κ (D:Int) M) R) (_:0<D) (_:D<=10^100) (_:M<=10^500) (_:∀(H':Hp) (tp D':Addr) (rs':List Addr) (A:Int) (x:κ.F),Same H H'->H' tp=some (.tup [.ref D',.int A])->Zmp κ R.flatten A->NumV κ A x->TabL κ H' D' rs' (Zhm x R) m->Q (.ref tp) H'):ZbK CF CR vs H Q zE
theorem ZoD{κ:KX}{D M:Nat}(hD:0<D){x:κ.F}(h:QN κ (D:Int) M x):DvB κ (D:Int) x:=by
  cases κ with
  | r p hp=>exact trivial
  | q =>
    obtain ⟨X,e,_⟩:=h
    show ((Rat.den x:Nat):Int) ∣ D
    have e:x=Rat.divInt X D:=e
    rw[e]
    exact (Zcg X (show (0:Int)<(D:Int) by omega)).1
theorem ZbM{κ:KX}{D M:Nat}(hD:0<D)(lD:D<=10^200)(lM:M<=10^500){x:κ.F}(h:QN κ (D:Int) M x):B1 κ x:=by
  have l:(10:Nat)^500<2^3000:=Q7 (show 10^500<2^2000 by decide) (Qd ∅ ∅)
  have l2:(10:Nat)^200<2^3000:=Q7 (show 10^200<2^1000 by decide) (Qd ∅ ∅)
  exact h.b1 ⋯ (by rw[Qy]; omega) ⋯
theorem ZkJ{κ:KX}{D M:Nat}(hD:0<D){f:List κ.F}{A:Int}(h:∀x∈f,QN κ (D:Int) M x)(b:Zmp κ f A):0<A/\A.natAbs<=D:=by
  cases κ with
  | r p hp =>
    have b:A=1:=b
    subst b
    exact ⟨∅,hD⟩
  | q =>
    obtain ⟨b0,b1,b2⟩:=b
    refine ⟨b0,?_⟩
    have:=ZaV (b2 (D:Int) λx hx=>ZoD (κ:=.q) hD (h x hx)) ⋯
    rw[Qy] at this
    exact this
theorem Znv{κ:KX}{A:Int}(h:A.natAbs<=10^140):∃x:κ.F,NumV κ A x:=by
  cases κ with
  | q=>obtain ⟨x,h1,h2⟩:=ZiA (n:=A) (d:=1) ⟨∅,by rw[Int.gcd_one]⟩; exact ⟨x,h1,⋯⟩
  | r p hp =>
    have h2:=hp.two
    have a:=Ul A (show (p:Int)≠0 by omega)
    have b:=Uz A (show 0<(p:Int) by omega)
    exact ⟨(⟨(A%p).toNat,⋯⟩:Fin p),h,by show (((A%p).toNat:Nat):Int)=_; omega⟩
theorem ZkK{κ:KX}{A:Int}{x:κ.F}(h:NumV κ A x):QN κ 1 A.natAbs x:=by
  cases κ with
  | r p hp=>exact trivial
  | q =>
    refine ⟨A,?_,Q4 _⟩
    show (x:Rat)=_
    have e1:Rat.num x=A:=h.1
    have e2:Rat.den x=1:=h.2
    rw[<-Qv x,e1,e2]; rfl
end My
namespace My
open PySem L2 PyProof.Rows
inductive ZdS (CF CR:Addr) (vs:List V) (H:Hp) (Q:VK) (zE:XK):Prop
  | mk (κ:KX) (s a c:Addr) (rs:List Addr) (R:List (List κ.F)) (xs:List V) (f:List κ.F) (D E M N:Nat) (_:vs=[.ref s,.ref a,.ref c]) (_:KdX CF CR κ H s) (_:H a=some (.lst (rs.map V.ref))) (_:RowsX κ H rs R) (_:Wid f.length R) (_:R.length<=100) (_:f.length<=100) (_:H c=some (.lst xs)) (_:AllG (NR κ H) xs f) (_:AllR (QN κ (D:Int) M) R) (_:(∀x∈f,QN κ (E:Int) N x)) (_:0<D) (_:D<=10^200) (_:0<E) (_:E<=10^200) (_:M<=10^500) (_:N<=10^500) (_:∀(H':Hp) (D:Addr) (ys:List V),Same H H'->H D=none->H' D=some (.lst ys)->AllG (NR κ H') ys (R.map λr=>ZfD r f)->Q (.ref D) H'):ZdS CF CR vs H Q zE
end My
namespace My
open PySem L2 PyProof.Rows
section
variable{P:Program}{w:World}{K:PySem.W.Frag}{mg:Str->Option Value}{base:Heap}{CF CR cF:Addr}
theorem Zhn:FnScope ["kind", "table", "column"] ["kind", "table", "column"] (Zah Zdo):=‹2›
theorem ZkL(h:Here K mg "sums_with" Zdo) (md:ZgC P w K mg base CF CR):Has P w K mg base "sums_with" 4 ["kind", "table", "column"] (ZdS CF CR):=by
  refine h.has (λf fd F=>F.binds λ_ _ _ _ _ _ us hl=>by obtain ⟨_,_,_,rfl⟩:=Zew hl; exact rfl) λf fd F=>F.ok Zhn (λvs H Q E h=>?_) (λcdv A outer s H vs Q E hr h=>?_)
  · obtain ⟨_,_,_,_,_,_,_,_,_,_,_,_,rfl,_⟩:=h
    rfl
  obtain ⟨κ,sk,a,c,rs,R,xs,f,D,E',M,N,rfl,hk,hA,rx,wd,n9,m9,hC,al,qR,qf,d0,d1,e0,e1,m1,n1,k⟩:=h
  refine ⟨_,(Zae (Zal (ZaX ["row"] [(0, "kind"),(2, "column")] rfl (ZaC (pv 1)) (by exact λ_ _ _ _=>(Zar (i:=0) (show (["row", "kind", "column"]:List Str).Nodup by decide +kernel) rfl (Or.inl rfl))) (by exact λ_ _ _ _=>(ZeY ⟨rfl,rfl,rfl,rfl,rfl⟩ (pv 1) hr (Zaa (pv 0) (Zaa (pv 2) Zac)))) ⟨⟨rfl,rfl,Or.inl rfl⟩,⟨⟨rfl,rfl,Or.inl rfl⟩,trivial⟩⟩))),?_⟩
  have lr:=rx.1
  refine ⟨_,rfl,a,rfl,⟨_,SqL.of hA⟩,?_⟩
  refine ZaL (K:=K) (a:=a) (xs:=rs.map V.ref) (λi ys H2=>Same H H2/\AllG (NR κ H2) ys ((R.take i).map λr=>ZfD r f)) (by rw[Q1]; omega) ⟨Same.refl _,.nil⟩ (λi ys H2 _ q=>SqL.of (q.1 _ _ hA)) ?_ ?_
  · rintro i x ys H2 hx hl ⟨S2,e⟩
    obtain ⟨b,hb,rfl⟩:=Zaw hx
    obtain ⟨g,hg⟩:=Zax hb lr
    obtain ⟨zs,hz,al2⟩:=rx.2 i b g hb hg
    have mg':=Q8 hg
    have lg:=wd g mg'
    obtain ⟨Cd,dxd,fsd,psd,dvd,spd,k1,k2,k3,k4,rfl,k5⟩:=md κ H2 sk (hk.same S2)
    refine ⟨_,rfl,sk,Cd,dxd,fsd,psd,_,spd,rfl,k1,k2,k3.mono ∅,k4,_,rfl,_,rfl,k5 H2 b c zs xs g f D E' M N _ (Same.refl _) (S2 _ _ hz) (S2 _ _ hC) (al2.mono λ_ _ n=>n.same S2) (al.mono λ_ _ n=>n.same S2) lg ⋯ (qR g mg') qf d0 d1 e0 e1 m1 n1 λH3 v S3 nv=>⟨S2.trans S3,?_⟩⟩
    rw[Qq,hg,Qn]
    exact (e.mono λ_ _ n=>n.same S3).append (.one nv)
  · rintro ys H2 hl ⟨S2,e⟩ Dd nD
    rw[Q1,lr,Qz] at e
    have SD:=Zag nD (.lst ys)
    exact k _ Dd ys (S2.trans SD) (S2.free nD) Zaf (e.mono λ_ _ n=>n.same SD)
end
section
variable{P:Program}{w:World}{K:PySem.W.Frag}{mg:Str->Option Value}{base:Heap}{CF CR cF:Addr}
theorem Zho:FnScope ["table"] ["table"] (Zah Zdm):=‹2›
theorem ZgE(h:Here K mg "is_square" Zdm) (T:Nm mg):Has P w K mg base "is_square" 1 ["table"] ZcE:=by
  refine h.has (λf fd F=>F.binds λ_ _ _ _ _ _ us hl=>by obtain ⟨_,rfl⟩:=Zlz hl; exact rfl) λf fd F=>F.ok Zho (λvs H Q E h=>?_) (λcdv A outer s H vs Q E hr h=>?_)
  · obtain ⟨_,_,_,_,_,rfl,_⟩:=h
    rfl
  obtain ⟨κ,a,rs,R,m,rfl,tb,k⟩:=h
  refine ⟨_,(Zae (Zal (Zbk Za9 (Zak Zai (by rfl) T.len boot_len (Zaa (pv 0) Zac)) (Zak Zai (by rfl) T.len boot_len (Zaa (Zam Zau (pv 0) Zad (λ_ _=>rfl)) Zac)) (Zas _)))),?_⟩
  obtain ⟨a0,xs,f,ha,hf,hx,al,lx⟩:=tb.fst
  refine ⟨_,rfl,a,_,rfl,.inl (SqL.of tb.l),_,rfl,a,_,0,_,rfl,rfl,SqL.of tb.l,Zbi (i:=0) ha,a0,_,rfl,.inl (SqL.of hx),rfl,?_⟩
  have e:decide (V.int ((rs.map V.ref).length:Int)=V.int (xs.length:Int))=decide (R.length=m):=by
    have l:=tb.r.1
    rw[Q1,l,lx]
    by_cases z:R.length=m
    · rw[decide_eq_true z,decide_eq_true (by rw[z])]
    · rw[decide_eq_false z,decide_eq_false (λy=>z (by injection y; omega))]
  show Q (V.bl (decide (V.int ((rs.map V.ref).length:Int)=V.int (xs.length:Int)))) H
  rw[e]; exact k
theorem ZfE:FnScope ["table"] ["table"] (Zah Zct):=‹2›
theorem Zfp(h:Here K mg "need_square" Zct) (c_NoFit:ExcC K mg "NoFit" cF) (h_is_square:Has P w K mg base "is_square" 1 ["table"] ZcE):HasX P w K mg base "need_square" 2 ["table"] (Zbo cF):=by
  refine h.hasX (λf fd F=>F.binds λ_ _ _ _ _ _ us hl=>by obtain ⟨_,rfl⟩:=Zlz hl; exact rfl) λf fd F=>F.okx ZfE (λvs H Q E h=>?_) (λcdv A outer s H vs Q E hr h=>?_)
  · obtain ⟨_,_,_,_,_,rfl,_⟩:=h
    rfl
  obtain ⟨κ,a,rs,R,m,rfl,tb,k1,k2⟩:=h
  refine ⟨_,(Zae (ZaB (ZbD (ZaY (Zan h_is_square hr (by rfl) (Zaa (pv 0) Zac)))) (Zae (Zcq c_NoFit ZeX rfl (by rfl) (Zaa ZbC Zac))) Zat)),?_⟩
  refine ⟨_,rfl,κ,a,rs,R,m,rfl,tb,_,rfl,?_⟩
  by_cases z:R.length=m
  · exact Zor z (k1 z)
  · exact Znf z ⟨(by show 1<=1000; decide),k2 z⟩
theorem ZkM:FnScope ["kind", "number", "table"] ["kind", "number", "table"] (Zah Zf5):=‹2›
theorem Zjs(h:Here K mg "scaled" Zf5) (h_scaled_row:Has P w K mg base "scaled_row" 3 ["kind", "number", "row"] (Zbe CF CR)):Has P w K mg base "scaled" 4 ["kind", "number", "table"] (Zeg CF CR):=by
  refine h.has (λf fd F=>F.binds λ_ _ _ _ _ _ us hl=>by obtain ⟨_,_,_,rfl⟩:=Zew hl; exact rfl) λf fd F=>F.ok ZkM (λvs H Q E h=>?_) (λcdv A outer s H vs Q E hr h=>?_)
  · obtain ⟨_,_,_,_,_,_,_,_,rfl,_⟩:=h
    rfl
  obtain ⟨κ,sk,a,cv,c,rs,R,m,rfl,hk,nc,bc,tb,bR,k⟩:=h
  refine ⟨_,(Zae (Zal (ZaX ["row"] [(0, "kind"),(1, "number")] rfl (ZaC (pv 2)) (by exact λ_ _ _ _=>(Zar (i:=0) (show (["row", "kind", "number"]:List Str).Nodup by decide +kernel) rfl (Or.inl rfl))) (by exact λ_ _ _ _=>(Zan h_scaled_row hr (by rfl) (Zaa (pv 1) (Zaa (pv 2) (Zaa (pv 0) Zac))))) ⟨⟨rfl,rfl,Or.inl rfl⟩,⟨⟨rfl,rfl,Or.inl rfl⟩,trivial⟩⟩))),?_⟩
  have lr:=tb.r.1
  have n9:=tb.n9
  have m9:=tb.m9
  refine ⟨_,rfl,a,rfl,⟨_,SqL.of tb.l⟩,?_⟩
  refine ZaL (K:=K) (a:=a) (xs:=rs.map V.ref) (λi ys H2=>Same H H2/\∃ds:List Addr,ys=ds.map V.ref/\RowsX κ H2 ds ((R.take i).map λr=>r.map (c * ·))/\∀d∈ds,H d=none) (by rw[Q1]; omega) ⟨Same.refl _,[],rfl,.nil,λd h=>nomatch h⟩ (λi ys H2 _ q=>SqL.of (q.1 _ _ tb.l)) ?_ ?_
  · rintro i x ys H2 hx hl ⟨S2,ds,rfl,rx,fr⟩
    obtain ⟨b,hb,rfl⟩:=Zaw hx
    obtain ⟨f,hf⟩:=Zax hb lr
    obtain ⟨zs,hz,al⟩:=tb.r.2 i b f hb hf
    have mf:=Q8 hf
    refine ⟨_,rfl,_,rfl,_,rfl,κ,sk,b,cv,c,zs,f,rfl,hk.same S2,nc.same S2,S2 _ _ hz,al.mono (λ_ _ n=>n.same S2),bc,bR f mf,by rw[tb.w f mf]; omega,λH3 D ws S3 nD hD e3=>⟨S2.trans S3,ds++[D],by simp,?_,λd hd=>?_⟩⟩
    · rw[Qq,hf,Qn]
      exact (rx.same S3).snoc hD e3
    · rcases Qj.mp hd with q | q
      · exact fr d q
      · rw[Q5.mp q]; exact S2.free nD
  · rintro ys H2 hl ⟨S2,ds,rfl,rx,fr⟩ D nD
    rw[Q1,lr,Qz] at rx
    have SD:=Zag nD (.lst (ds.map V.ref))
    exact k _ D ds (S2.trans SD) ⟨Zaf,rx.same SD,ZlU tb.w c,by rw[ZgD]; exact tb.n1,by rw[ZgD]; exact tb.n9,tb.m9⟩ fr (S2.free nD)
theorem sc_evenly_freed:FnScope ["kind", "table", "numbers", "row", "bottom"] ["kind", "table"] (Zah Zb9):=‹2›
theorem ZeE(h:Here K mg "evenly_freed" Zb9) (mn:ZcA P w K mg base CF CR) (mb:ZhV P w K mg base CF CR) (h_scaled:Has P w K mg base "scaled" 4 ["kind", "number", "table"] (Zeg CF CR)):Has P w K mg base "evenly_freed" 5 ["kind", "table"] (ZbK CF CR):=by
  refine h.has (λf fd F=>F.binds λ_ _ _ _ _ _ us hl=>by obtain ⟨_,_,rfl⟩:=ZdJ hl; exact rfl) λf fd F=>F.ok sc_evenly_freed (λvs H Q E h=>?_) (λcdv A outer s H vs Q E hr h=>?_)
  · obtain ⟨_,_,_,_,_,_,_,_,rfl,_⟩:=h
    rfl
  obtain ⟨κ,sk,a,rs,R,m,D,M,rfl,hk,ta,qR,d0,d1,m1,k⟩:=h
  have d2:D<=10^200:=Q0 d1 ∅
  have nd:=sc_evenly_freed.nd
  refine ⟨_,(Zab (Zaj (i:=2) nd rfl (Or.inl rfl) (ZaQ Zac))
    (Zab (ZaI PassesOwn.never rfl (ZaC (pv 1)) (Zar (i:=3) nd rfl (Or.inl rfl)) (Zae (ZaE (ZeC PySem.F.plainAttrs_list PySem.F.slot_list_extend PySem.F.type_list_extend ZjW (pv 2) (Zaa (pv 3) Zac)))))
    (Zab (Zaj (i:=4) nd rfl (Or.inl rfl) (ZaZ (pv 0) hr (Zaa (pv 2) Zac)))
    (Zae (Zal (Za2 (Zaa (Zan h_scaled hr (by rfl) (Zaa (pv 0) (Zaa (ZaS (pv 0) Zdl hr (Zaa (pv 4) Zac)) (Zaa (pv 1) Zac)))) (Zaa (pv 4) Zac)))))))),?_⟩
  have lr:=ta.r.1
  have n9:=ta.n9
  have m9:=ta.m9
  refine ⟨(by show 0<=sizeLine; decide),λnb nnb=>?_⟩
  have Sn:=Zag nnb (.lst [])
  have qn:=Zaf (H:=H) (a:=nb) (o:=.lst [])
  generalize upd H nb (.lst [])=H1 at *
  refine ⟨_,rfl,a,rfl,⟨_,SqL.of (Sn _ _ ta.l)⟩,?_⟩
  refine Za8 (xs:=rs.map V.ref) (λi σ H2=>∃(z3 z4:Option V) (ns:List V),σ=[some (.ref sk),some (.ref a),some (.ref nb),z3,z4]/\Same H H2/\H2 nb=some (.lst ns)/\AllG (NR κ H2) ns (R.take i).flatten/\ns.length<=i*m) ⟨_,_,[],rfl,Sn,qn,by rw[W9]; exact .nil,Qh _⟩ ?_ ?_ ?_
  · rintro i σ H2-⟨z3,z4,ns,rfl,S2,-⟩
    exact SqL.of (S2 _ _ ta.l)
  · rintro i v σ H2 hv ⟨z3,z4,ns,rfl,S2,hn,an,ln⟩
    obtain ⟨b,hb,rfl⟩:=Zaw hv
    obtain ⟨f,hf⟩:=Zax hb lr
    obtain ⟨zs,hz,al⟩:=ta.r.2 i b f hb hf
    have mf:=Q8 hf
    have hi:i<rs.length:=(Qk.mp hb).1
    have lz:zs.length=m:=by rw[al.1]; exact ta.w f mf
    have nm:i*m<=100*100:=Qm ⋯ m9
    refine ⟨_,rfl,.inl ⟨rfl,_,SqL.of hn⟩,_,rfl,nb,b,ns,zs,rfl,rfl,hn,S2 _ _ hz,Q0 (show ns.length+zs.length<=20000 by omega) ∅,?_⟩
    have O:Off [nb] H2 (upd H2 nb (.lst (ns++zs))):=ZaH (Same.refl H2)
    refine ⟨_,_,ns++zs,rfl,Off.same O S2 (λz hz=>by rw[Q5.mp hz]; exact nnb),Zaf,?_,by rw[Qb,Nat.succ_mul]; omega⟩
    rw[Qq,hf,List.flatten_append]
    show AllG _ _ ((R.take i).flatten++[f].flatten)
    rw[show [f].flatten=f by simp]
    exact (an.mono λ_ _ n=>n.off hn O).append (al.mono λ_ _ n=>(n.same S2).off hn O)
  · rintro σ H2 ⟨z3,z4,ns,rfl,S2,hn,an,ln⟩
    rw[Q1,lr,Qz] at an
    have qF:∀x∈R.flatten,QN κ (D:Int) M x:=λx hx=>by
      obtain ⟨f,hf,hx⟩:=List.mem_flatten.mp hx
      exact qR f hf x hx
    obtain ⟨Cb,dxb,fsb,psb,dvb,spb,b1,b2,b3,b4,rfl,b5⟩:=mb κ H2 sk (hk.same S2)
    have bD:Bits 4000 (D:Int):=Bits.of (by rw[Qy]; exact Qs d2 (Q7 (show 10^200<2^1000 by decide) (Qd ∅ ∅)))
    refine ⟨_,rfl,sk,Cb,dxb,fsb,psb,_,spb,rfl,b1,b2,b3.mono ∅,b4,_,rfl,b5 nb ns _ (D:Int) _ hn an ⋯ bD (λx hx=>ZoD d0 (qF x hx)) λA bA=>?_⟩
    obtain ⟨A0,Al⟩:=ZkJ d0 qF bA
    have A140:A.natAbs<=10^140:=Q0 (Q0 Al d1) ∅
    obtain ⟨x,nx⟩:=Znv (κ:=κ) A140
    obtain ⟨Cn,dxn,fsn,psn,dvn,spn,k1,k2,k3,k4,rfl,k5⟩:=mn κ H2 sk (hk.same S2)
    refine ⟨_,rfl,_,rfl,sk,Cn,dxn,fsn,psn,_,spn,rfl,k1,k2,k3.mono ∅,k4,_,rfl,k5 H2 A x _ _ (Same.refl _) nx λv H3 S3 nv=>?_⟩
    have bx:B1 κ x:=ZbM (D:=1) ∅ ∅ (Q0 Al (Q0 d2 ∅)) (ZkK nx)
    refine ⟨_,rfl,κ,sk,a,v,x,rs,R,m,rfl,hk.same (S2.trans S3),nv,bx,ta.same (S2.trans S3),(λf hf y hy=>ZbM d0 d2 m1 (qR f hf y hy)),λH4 D' rs' S4 t4 _ _=>?_⟩
    refine ⟨_,rfl,(by show 2<=sizeLine; decide),λtp ntp=>?_⟩
    have St:=Zag ntp (.tup [.ref D',.int A])
    exact k _ tp D' rs' A x (S2.trans (S3.trans (S4.trans St))) Zaf bA nx (t4.same St)
end
end My
namespace My.Rg
open PySem L2 PyProof.Rows
section
variable{α:Type}[Lean.Grind.CommRing α]
theorem ZpT:(0:α)+0=0:=by grind
def Sg(h:Nat->α):Nat->α
  | 0=>0
  | n+1=>Sg h n+h n
theorem Sg_congr{h g:Nat->α}:∀ {n:Nat},(∀i,i<n->h i=g i)->Sg h n=Sg g n
  | 0,_=>rfl
  | n+1,e=>by
    show Sg h n+h n=Sg g n+g n
    rw[Sg_congr (n:=n) λi hi=>e i ⋯,e n ⋯]
theorem Sg_mul(c:α)(h:Nat->α):∀n,c*Sg h n=Sg (λi=>c*h i) n
  | 0=>by show c*0=0; grind
  | n+1=>by
    show c*(Sg h n+h n)=Sg (λi=>c*h i) n+c*h n
    rw[<-Sg_mul c h n]; grind
theorem Sg_add(h g:Nat->α):∀n,Sg h n+Sg g n=Sg (λi=>h i+g i) n
  | 0=>ZpT
  | n+1=>by
    show (Sg h n+h n)+(Sg g n+g n)=Sg (λi=>h i+g i) n+(h n+g n)
    rw[<-Sg_add h g n]; grind
theorem Sg_zero:∀n,Sg (λ_=>(0:α)) n=0
  | 0=>rfl
  | n+1=>by show Sg _ n+0=0; rw[Sg_zero n]; exact ZpT
theorem Sg_comm(h:Nat->Nat->α)(m:Nat):∀n,Sg (λi=>Sg (λj=>h i j) m) n=Sg (λj=>Sg (λi=>h i j) n) m
  | 0=>(Sg_zero m).symm
  | n+1=>by
    show Sg _ n+Sg (λj=>h n j) m=Sg (λj=>Sg (λi=>h i j) n+h n j) m
    rw[Sg_comm h m n,Sg_add]
theorem ZcF(h:Nat->α):∀n,Sg h (n+1)=h 0+Sg (λi=>h (i+1)) n
  | 0=>by show 0+h 0=h 0+0; grind
  | n+1=>by
    show Sg h (n+1)+h (n+1)=h 0+(Sg (λi=>h (i+1)) n+h (n+1))
    rw[ZcF h n]; grind
theorem Sg_one(h:Nat->α)(i:Nat):∀n,Sg (λl=>h l*(if i=l then 1 else 0)) n=if i<n then h i else 0
  | 0=>by rw[if_neg ⋯]; rfl
  | n+1=>by
    show Sg _ n+h n*(if i=n then 1 else 0)=_
    rw[Sg_one h i n]
    by_cases e:i=n
    · subst e; rw[if_neg ⋯,if_pos rfl,if_pos ⋯]; grind
    · rw[if_neg e]
      by_cases l:i<n
      · rw[if_pos l,if_pos ⋯]; grind
      · rw[if_neg l,if_neg ⋯]; grind
def sgn(α:Type)[Lean.Grind.CommRing α]:Nat->α
  | 0=>1
  | n+1=>0-sgn α n
def skip(j t:Nat):Nat:=if t<j then t else t+1
theorem ZkN{j k:Nat}(h:k<j)(t:Nat):skip j (skip k t)=skip k (skip (j-1) t):=by
  have lo:∀ {j t:Nat},t<j->skip j t=t:=λh=>by unfold skip; rw[if_pos h]
  have hi:∀ {j t:Nat},j<=t->skip j t=t+1:=λh=>by unfold skip; rw[if_neg ⋯]
  by_cases h1:t<k
  · rw[lo h1,lo (show t<j by omega),lo (show t<j-1 by omega),lo h1]
  · by_cases h2:t<j-1
    · rw[hi (show k<=t by omega),lo (show t+1<j by omega),lo h2,hi (show k<=t by omega)]
    · rw[hi (show k<=t by omega),hi (show j<=t+1 by omega),hi (show j-1<=t by omega),hi (show k<=t+1 by omega)]
def det:Nat->(Nat->Nat->α)->α
  | 0,_=>1
  | n+1,a=>Sg (λj=>sgn α j*a 0 j*det n (λi k=>a (i+1) (skip j k))) (n+1)
theorem Za7:∀ {n:Nat} {a b:Nat->Nat->α},(∀i j,i<n->j<n->a i j=b i j)->det n a=det n b
  | 0,_,_,_=>rfl
  | n+1,a,b,h=>by
    show Sg _ (n+1)=Sg _ (n+1)
    refine Sg_congr λj hj=>?_
    rw[h 0 j ⋯ hj,Za7 (n:=n) (a:=λi k=>a (i+1) (skip j k)) (b:=λi k=>b (i+1) (skip j k)) λi k hi hk=>h _ _ ⋯ (by unfold skip; split <;> omega)]
def Zbg(a:Nat->Nat->α)(r:Nat)(f:Nat->α):Nat->Nat->α:=λi j=>if i=r then f j else a i j
theorem Zeh:∀ {n:Nat} {a:Nat->Nat->α} {r:Nat} (f g:Nat->α) (c:α),r<n->det n (Zbg a r λj=>f j+c*g j)=det n (Zbg a r f)+c*det n (Zbg a r g)
  | 0,_,_,_,_,_,h=>by omega
  | n+1,a,0,f,g,c,_=>by
    show Sg _ (n+1)=Sg _ (n+1)+c*Sg _ (n+1)
    rw[Sg_mul,Sg_add]
    refine Sg_congr λj hj=>?_
    have e:∀h:Nat->α,det n (λi k=>Zbg a 0 h (i+1) (skip j k))=det n (λi k=>a (i+1) (skip j k)):=λh=>Za7 λi k _ _=>by unfold Zbg; rw[if_neg ⋯]
    rw[e,e,e]
    show sgn α j*(f j+c*g j)*_=sgn α j*f j*_+c*(sgn α j*g j*_)
    grind
  | n+1,a,r+1,f,g,c,hr=>by
    show Sg _ (n+1)=Sg _ (n+1)+c*Sg _ (n+1)
    rw[Sg_mul,Sg_add]
    refine Sg_congr λj hj=>?_
    have e:∀h:Nat->α,det n (λi k=>Zbg a (r+1) h (i+1) (skip j k))=det n (Zbg (λi k=>a (i+1) (skip j k)) r λk=>h (skip j k)):=λh=>Za7 λi k _ _=>by
      unfold Zbg
      by_cases q:i=r
      · rw[if_pos ⋯,if_pos q]
      · rw[if_neg ⋯,if_neg q]
    rw[e,e,e,Zeh (n:=n) (a:=λi k=>a (i+1) (skip j k)) (r:=r) (λk=>f (skip j k)) (λk=>g (skip j k)) c ⋯]
    have z:∀h:Nat->α,Zbg a (r+1) h 0 j=a 0 j:=λh=>by unfold Zbg; rw[if_neg ⋯]
    rw[z,z,z]
    grind
theorem ZkO{f:Nat->Nat->α}:∀n,(∀j k,k<j->j<=n->f j k=0-f k (j-1))->Sg (λj=>Sg (λk=>f j k) n) (n+1)=0
  | 0,_=>by
    show (0:α)+0=0
    grind
  | n+1,h=>by
    have ih:=ZkO n λj k hk hj=>h j k hk ⋯
    show Sg (λj=>Sg (λk=>f j k) (n+1)) (n+1)+Sg (λk=>f (n+1) k) (n+1)=0
    have e1:Sg (λj=>Sg (λk=>f j k) (n+1)) (n+1)=Sg (λj=>Sg (λk=>f j k) n) (n+1)+Sg (λj=>f j n) (n+1):=by
      rw[Sg_add]; rfl
    have e2:Sg (λk=>f (n+1) k) (n+1)=Sg (λj=>(0-1)*f j n) (n+1):=Sg_congr λk hk=>by
      rw[h (n+1) k hk (Q4 _)]
      show 0-f k n=(0-1)*f k n
      grind
    rw[e1,e2,ih,<-Sg_mul]
    grind
theorem Zh4:∀ {n:Nat} {a:Nat->Nat->α} {r:Nat},r+1<n->(∀j,a r j=a (r+1) j)->det n a=0
  | 0,_,_,h,_=>by omega
  | 1,_,_,h,_=>by omega
  | n+2,a,0,_,e=>by
    show Sg (λj=>sgn α j*a 0 j*Sg (λk=>sgn α k*a 1 (skip j k)*det n (λi t=>a (i+2) (skip j (skip k t)))) (n+1)) (n+2)=0
    have e1:∀j,j<n+2->sgn α j*a 0 j*Sg (λk=>sgn α k*a 1 (skip j k)*det n (λi t=>a (i+2) (skip j (skip k t)))) (n+1)=Sg (λk=>sgn α j*a 0 j*(sgn α k*a 0 (skip j k)*det n (λi t=>a (i+2) (skip j (skip k t))))) (n+1):=λj _=>by
      rw[Sg_mul]
      exact Sg_congr λk _=>by rw[e (skip j k)]
    rw[Sg_congr e1]
    refine ZkO (n+1) λj k hk hj=>?_
    have s1:skip j k=k:=by unfold skip; rw[if_pos hk]
    have s2:skip k (j-1)=j:=by unfold skip; rw[if_neg ⋯]; omega
    have s3:det n (λi t=>a (i+2) (skip j (skip k t)))=det n (λi t=>a (i+2) (skip k (skip (j-1) t))):=Za7 λi t _ _=>by rw[ZkN hk]
    have s4:sgn α j=0-sgn α (j-1):=by
      obtain ⟨m,rfl⟩:∃m,j=m+1:=⟨j-1,⋯⟩
      rfl
    rw[s1,s2,s3,s4]
    grind
  | n+2,a,r+1,h,e=>by
    show Sg _ (n+2)=0
    have z:∀j,j<n+2->sgn α j*a 0 j*det (n+1) (λi k=>a (i+1) (skip j k))=0:=λj _=>by
      rw[Zh4 (n:=n+1) (a:=λi k=>a (i+1) (skip j k)) (r:=r) ⋯ λk=>e (skip j k)]
      grind
    rw[Sg_congr z,Sg_zero]
theorem Zci(a:Nat->Nat->α)(r:Nat):Zbg a r (a r)=a:=by
  funext i j
  unfold Zbg
  split
  · rename_i e; rw[e]
  · rfl
theorem ZgF{n:Nat}{a:Nat->Nat->α}{r:Nat}(f g:Nat->α)(h:r<n):det n (Zbg a r λj=>f j+g j)=det n (Zbg a r f)+det n (Zbg a r g):=by
  have:=Zeh (a:=a) f g (1:α) h
  have e:(λj=>f j+(1:α)*g j)=λj=>f j+g j:=by funext j; grind
  rw[e] at this
  rw[this]
  grind
theorem Znw{n:Nat}{a:Nat->Nat->α}{r:Nat}(h:r+1<n):det n (Zbg (Zbg a r (a (r+1))) (r+1) (a r))=0-det n a:=by
  have z:∀x:Nat->α,det n (Zbg (Zbg a r x) (r+1) x)=0:=λx=>Zh4 h λj=>by
    unfold Zbg
    rw[if_neg ⋯,if_pos rfl,if_pos rfl]
  have c:∀x y:Nat->α,Zbg (Zbg a r x) (r+1) y=Zbg (Zbg a (r+1) y) r x:=λx y=>by
    funext i j
    unfold Zbg
    by_cases e1:i=r+1
    · rw[if_pos e1,if_neg ⋯,if_pos e1]
    · by_cases e2:i=r
      · rw[if_neg e1,if_pos e2,if_pos e2]
      · rw[if_neg e1,if_neg e2,if_neg e2,if_neg e1]
  have h0:=z λj=>a r j+a (r+1) j
  rw[ZgF _ _ ⋯,c,c,ZgF _ _ ⋯,ZgF _ _ ⋯,<-c,<-c,<-c,<-c] at h0
  have z1:=z λj=>a r j
  have z2:=z λj=>a (r+1) j
  have s:Zbg (Zbg a r λj=>a r j) (r+1) (λj=>a (r+1) j)=a:=by
    have e1:Zbg a r (λj=>a r j)=a:=Zci a r
    rw[e1]
    exact Zci a (r+1)
  rw[z1,z2,s] at h0
  have t:det n (Zbg (Zbg a r λj=>a (r+1) j) (r+1) λj=>a r j)=det n (Zbg (Zbg a r (a (r+1))) (r+1) (a r)):=rfl
  rw[t] at h0
  generalize det n (Zbg (Zbg a r (a (r+1))) (r+1) (a r))=u at *
  generalize det n a=v at *
  grind
theorem Zh5{n:Nat}:∀ {d:Nat} {a:Nat->Nat->α} {r:Nat},r+d+1<n->(∀j,a r j=a (r+d+1) j)->det n a=0
  | 0,a,r,h,e=>Zh4 h e
  | d+1,a,r,h,e=>by
    have s:=Znw (a:=a) (r:=r+d+1) (n:=n) ⋯
    have z:det n (Zbg (Zbg a (r+d+1) (a (r+d+1+1))) (r+d+1+1) (a (r+d+1)))=0:=by
      refine Zh5 (d:=d) (r:=r) ⋯ λj=>?_
      unfold Zbg
      rw[if_neg ⋯,if_neg ⋯,if_neg ⋯,if_pos rfl]
      exact e j
    rw[z] at s
    generalize det n a=v at *
    grind
theorem ZiH{n:Nat}{a:Nat->Nat->α}{r s:Nat}(hr:r<n)(hs:s<n)(ne:r≠s)(e:∀j,a r j=a s j):det n a=0:=by
  rcases Nat.lt_or_gt_of_ne ne with h | h
  · refine Zh5 (d:=s-r-1) (r:=r) ⋯ λj=>?_
    rw[e j]; congr 1; omega
  · refine Zh5 (d:=r-s-1) (r:=s) ⋯ λj=>?_
    rw[<-e j]; congr 1; omega
theorem ZlV{n:Nat}{a:Nat->Nat->α}{r s:Nat}(c:α)(hr:r<n)(hs:s<n)(ne:r≠s):det n (Zbg a r λj=>a r j+c*a s j)=det n a:=by
  rw[Zeh _ _ _ hr,show Zbg a r (λj=>a r j)=a from Zci a r,ZiH (a:=Zbg a r λj=>a s j) hr hs ne λj=>by unfold Zbg; rw[if_pos rfl,if_neg (Ne.symm ne)]]
  grind
theorem ZiI{n:Nat}{a:Nat->Nat->α}{r:Nat}(c:α)(hr:r<n):det n (Zbg a r λj=>c*a r j)=c*det n a:=by
  have e:(λj=>c*a r j)=λj=>0*a r j+c*a r j:=by funext j; grind
  have z:det n (Zbg a r λj=>0*a r j)=0:=by
    have e2:(λj=>(0:α)*a r j)=λj=>0+0*a r j:=by funext j; grind
    have:=Zeh (a:=a) (λ_=>(0:α)) (λ_=>0) (0-1) hr
    have e3:(λj:Nat=>(0:α)+(0-1)*0)=λ_=>0:=by funext j; grind
    rw[e3] at this
    have e4:(λj=>(0:α)*a r j)=λ_=>0:=by funext j; grind
    rw[e4]
    generalize det n (Zbg a r λ_=>(0:α))=v at *
    grind
  rw[e,Zeh (λj=>0*a r j) (a r) c hr,z,Zci]
  grind
end
end My.Rg
namespace My.Rg
open PySem L2 PyProof.Rows
section
variable{α:Type}[Lean.Grind.CommRing α]
theorem Zmv(F:Nat->Nat->α):∀n,Sg (λk=>Sg (λi=>F k i) (k+1)) n=Sg (λi=>Sg (λj=>F (i+j) i) (n-i)) n
  | 0=>rfl
  | n+1=>by
    show Sg _ n+Sg (λi=>F n i) (n+1)=Sg _ n+Sg (λj=>F (n+j) n) (n+1-n)
    rw[Zmv F n,show n+1-n=1 by omega]
    have e:Sg (λi=>Sg (λj=>F (i+j) i) (n+1-i)) n=Sg (λi=>Sg (λj=>F (i+j) i) (n-i)) n+Sg (λi=>F n i) n:=by
      rw[Sg_add]
      refine Sg_congr λi hi=>?_
      rw[show n+1-i=(n-i)+1 by omega]
      show _+F (i+(n-i)) i=_
      rw[show i+(n-i)=n by omega]
    rw[e]
    show _+(Sg (λi=>F n i) n+F n n)=_+(0+F (n+0) n)
    generalize Sg (λi=>Sg (λj=>F (i+j) i) (n-i)) n=S
    generalize Sg (λi=>F n i) n=U
    show _=_+(0+F n n)
    grind
theorem Zmw(h:Nat->α):∀n,Sg h n=Sg (λi=>h (n-1-i)) n
  | 0=>rfl
  | n+1=>by
    rw[ZcF (λi=>h (n+1-1-i)) n]
    show Sg h n+h n=h n+_
    rw[Zmw h n]
    have e:Sg (λi=>h (n-1-i)) n=Sg (λi=>h (n+1-1-(i+1))) n:=Sg_congr λi _=>by rw[show n+1-1-(i+1)=n-1-i by omega]
    rw[e]
    grind
end
structure Ps (α:Type) where
  c:Nat->α
namespace Ps
section
variable{α:Type}[Lean.Grind.CommRing α]
def nc(n:Nat):α:=@NatCast.natCast α Lean.Grind.Semiring.natCast n
def ic(i:Int):α:=@IntCast.intCast α Lean.Grind.Ring.intCast i
theorem ext{f g:Ps α}(h:∀n,f.c n=g.c n):f=g:=by
  cases f; cases g
  congr 1
  funext n
  exact h n
def add(f g:Ps α):Ps α:=⟨λn=>f.c n+g.c n⟩
def mul(f g:Ps α):Ps α:=⟨λn=>Sg (λi=>f.c i*g.c (n-i)) (n+1)⟩
def neg(f:Ps α):Ps α:=⟨λn => - f.c n⟩
def con(x:α):Ps α:=⟨λn=>if n=0 then x else 0⟩
def pow(f:Ps α):Nat->Ps α
  | 0=>con 1
  | n+1=>mul (pow f n) f
theorem con_mul(x:α)(f:Ps α)(n:Nat):(mul (con x) f).c n=x*f.c n:=by
  show Sg (λi=>(if i=0 then x else 0)*f.c (n-i)) (n+1)=_
  rw[ZcF]
  have e:Sg (λi=>(if i+1=0 then x else 0)*f.c (n-(i+1))) n=Sg (λ_=>(0:α)) n:=Sg_congr λi _=>by rw[if_neg ⋯]; grind
  rw[e,Sg_zero,if_pos rfl]
  show x*f.c n+0=_
  grind
theorem ZfV(f g:Ps α):mul f g=mul g f:=ext λn=>by
  show Sg _ (n+1)=Sg _ (n+1)
  rw[Zmw]
  refine Sg_congr λi hi=>?_
  rw[show n+1-1-i=n-i by omega,show n-(n-i)=i by omega]
  grind
theorem ZoE(f g h:Ps α):mul (mul f g) h=mul f (mul g h):=ext λn=>by
  show Sg (λk=>Sg (λi=>f.c i*g.c (k-i)) (k+1)*h.c (n-k)) (n+1)=Sg (λi=>f.c i*Sg (λj=>g.c j*h.c (n-i-j)) (n-i+1)) (n+1)
  have e:Sg (λk=>Sg (λi=>f.c i*g.c (k-i)) (k+1)*h.c (n-k)) (n+1)=Sg (λk=>Sg (λi=>f.c i*(g.c (k-i)*h.c (n-k))) (k+1)) (n+1):=Sg_congr λk _=>by
    have e1:Sg (λi=>f.c i*g.c (k-i)) (k+1)*h.c (n-k)=h.c (n-k)*Sg (λi=>f.c i*g.c (k-i)) (k+1):=by grind
    rw[e1,Sg_mul]
    refine Sg_congr λi _=>?_
    grind
  rw[e,Zmv (λk i=>f.c i*(g.c (k-i)*h.c (n-k))) (n+1)]
  refine Sg_congr λi hi=>?_
  rw[Sg_mul,show n+1-i=n-i+1 by omega]
  refine Sg_congr λj _=>?_
  rw[show i+j-i=j by omega,show n-(i+j)=n-i-j by omega]
theorem ZiJ(f g h:Ps α):mul f (add g h)=add (mul f g) (mul f h):=ext λn=>by
  show Sg _ (n+1)=Sg _ (n+1)+Sg _ (n+1)
  rw[Sg_add]
  refine Sg_congr λi _=>?_
  show f.c i*(g.c (n-i)+h.c (n-i))=_
  grind
theorem ZkP(f:Ps α):mul (con 1) f=f:=ext λn=>by rw[con_mul]; grind
theorem ZiK(f:Ps α):mul (con 0) f=con 0:=ext λn=>by
  rw[con_mul]
  show 0*f.c n=if n=0 then 0 else 0
  split <;> grind
theorem Zh6{x y:α}(h:x=y):con x=con y:=by rw[h]
instance instRing:Lean.Grind.CommRing (Ps α) where
  add:=add
  mul:=mul
  neg:=neg
  sub f g:=add f (neg g)
  natCast:=⟨λn=>con (nc n)⟩
  ofNat n:=⟨con (OfNat.ofNat n)⟩
  nsmul:=⟨λn f=>mul (con (nc n)) f⟩
  npow:=⟨pow⟩
  intCast:=⟨λi=>con (ic i)⟩
  zsmul:=⟨λi f=>mul (con (ic i)) f⟩
  add_zero f:=ext λn=>by
    show f.c n+(if n=0 then 0 else 0)=f.c n
    split <;> grind
  add_comm f g:=ext λn=>by show f.c n+g.c n=g.c n+f.c n; grind
  add_assoc f g h:=ext λn=>by show f.c n+g.c n+h.c n=f.c n+(g.c n+h.c n); grind
  mul_assoc:=ZoE
  mul_one f:=(ZfV f (con 1)).trans (ZkP f)
  one_mul f:=ZkP f
  left_distrib:=ZiJ
  right_distrib f g h:=by
    show mul (add f g) h=add (mul f h) (mul g h)
    rw[ZfV,ZiJ,ZfV h f,ZfV h g]
  zero_mul f:=ZiK f
  mul_zero f:=(ZfV f (con 0)).trans (ZiK f)
  pow_zero f:=rfl
  pow_succ f n:=rfl
  ofNat_succ n:=ext λk=>by
    show (if k=0 then OfNat.ofNat (n+1) else 0)=(if k=0 then OfNat.ofNat n else 0)+(if k=0 then (1:α) else 0)
    split
    · exact Lean.Grind.Semiring.ofNat_succ n
    · grind
  ofNat_eq_natCast n:=Zh6 (Lean.Grind.Semiring.ofNat_eq_natCast n)
  nsmul_eq_natCast_mul n f:=rfl
  neg_add_cancel f:=ext λn=>by
    show-f.c n+f.c n=if n=0 then 0 else 0
    split <;> grind
  sub_eq_add_neg f g:=rfl
  neg_zsmul i f:=ext λn=>by
    show (mul (con (ic (-i))) f).c n = - (mul (con (ic i)) f).c n
    rw[con_mul,con_mul,show (ic (-i):α) = - ic i from Lean.Grind.Ring.intCast_neg i]
    grind
  zsmul_natCast_eq_nsmul n f:=by
    show mul (con (ic (n:Int))) f=mul (con (nc n)) f
    rw[Zh6 (show (ic (n:Int):α)=nc n from Lean.Grind.Ring.intCast_natCast n)]
  intCast_ofNat n:=Zh6 (Lean.Grind.Ring.intCast_ofNat n)
  intCast_neg i:=ext λn=>by
    show (if n=0 then (ic (-i):α) else 0) = - (if n=0 then ic i else 0)
    split
    · exact Lean.Grind.Ring.intCast_neg i
    · grind
  mul_comm:=ZfV
theorem c_add(f g:Ps α)(n:Nat):(f+g).c n=f.c n+g.c n:=rfl
theorem c_mul(f g:Ps α)(n:Nat):(f*g).c n=Sg (λi=>f.c i*g.c (n-i)) (n+1):=rfl
theorem c_sub(f g:Ps α)(n:Nat):(f-g).c n=f.c n-g.c n:=by
  show f.c n + - g.c n=_
  grind
theorem c_zero(n:Nat):(0:Ps α).c n=0:=by show (if n=0 then (0:α) else 0)=0; split <;> rfl
theorem c_one(n:Nat):(1:Ps α).c n=if n=0 then 1 else 0:=rfl
theorem c_Sg(h:Nat->Ps α)(n:Nat):∀m,(Sg h m).c n=Sg (λi=>(h i).c n) m
  | 0=>c_zero n
  | m+1=>by
    show (Sg h m+h m).c n=_
    rw[c_add,c_Sg h n m]
    rfl
end
end Ps
end My.Rg
namespace My.Rg
open PySem L2 PyProof.Rows
section
variable{α:Type}[Lean.Grind.CommRing α]
theorem Zfq{j t:Nat}(h:t<j):skip j t=t:=by unfold skip; rw[if_pos h]
theorem Zei{j t:Nat}(h:j<=t):skip j t=t+1:=by unfold skip; rw[if_neg ⋯]
theorem Zfr:∀(n:Nat) (B:Nat->Nat->α),(∀j,j<n->B n j=0)->det (n+1) B=B n n*det n B
  | 0,B,_=>by
    show 0+1*B 0 0*1=B 0 0*1
    grind
  | n+1,B,h=>by
    show Sg (λj=>sgn α j*B 0 j*det (n+1) (λi k=>B (i+1) (skip j k))) (n+2)=B (n+1) (n+1)*Sg (λj=>sgn α j*B 0 j*det n (λi k=>B (i+1) (skip j k))) (n+1)
    show Sg _ (n+1)+sgn α (n+1)*B 0 (n+1)*det (n+1) (λi k=>B (i+1) (skip (n+1) k))=_
    rw[Zfr n (λi k=>B (i+1) (skip (n+1) k)) λj hj=>by rw[Zfq ⋯]; exact h j ⋯]
    show Sg _ (n+1)+sgn α (n+1)*B 0 (n+1)*(B (n+1) (skip (n+1) n)*det n (λi k=>B (i+1) (skip (n+1) k)))=_
    rw[Zfq (show n<n+1 by omega),h n ⋯,Sg_mul]
    have e:Sg (λj=>sgn α j*B 0 j*det (n+1) (λi k=>B (i+1) (skip j k))) (n+1)=Sg (λj=>B (n+1) (n+1)*(sgn α j*B 0 j*det n (λi k=>B (i+1) (skip j k)))) (n+1):=Sg_congr λj hj=>by
      rw[Zfr n (λi k=>B (i+1) (skip j k)) λk hk=>h _ (by unfold skip; split <;> omega)]
      show sgn α j*B 0 j*(B (n+1) (skip j n)*_)=_
      rw[Zei (show j<=n by omega)]
      generalize (det n _:α)=D
      grind
    rw[e]
    generalize (Sg _ (n+1):α)=S
    generalize (det n _:α)=D
    grind
def lin(x y:α):Ps α:=⟨λn=>if n=0 then x else if n=1 then y else 0⟩
theorem ZgG(f:Ps α)(x y:α)(n:Nat):(f*lin x y).c n=f.c n*x+(if n=0 then 0 else f.c (n-1)*y):=by
  rw[Ps.c_mul]
  match n with
  | 0 =>
    show 0+f.c 0*x=f.c 0*x+0
    grind
  | n+1 =>
    show (Sg (λi=>f.c i*(lin x y).c (n+1-i)) n+f.c n*(lin x y).c (n+1-n))+f.c (n+1)*(lin x y).c (n+1-(n+1))=_
    have e:Sg (λi=>f.c i*(lin x y).c (n+1-i)) n=Sg (λ_=>(0:α)) n:=Sg_congr λi hi=>by
      show f.c i*(if n+1-i=0 then x else if n+1-i=1 then y else 0)=0
      rw[if_neg ⋯,if_neg ⋯]
      grind
    rw[e,Sg_zero,show n+1-n=1 by omega,show n+1-(n+1)=0 by omega,if_neg ⋯,show n+1-1=n by omega]
    show 0+f.c n*y+f.c (n+1)*x=_
    grind
def unz(a:Nat->Nat->α):Nat->Nat->Ps α:=λi j=>lin (if j=i then 1 else 0) (0-a i j)
def wv(a:Nat->Nat->α)(s:Nat):Nat->Nat->α
  | 0,j=>a s j
  | t+1,j=>Sg (λi=>wv a s t i*a i j) s
def yv(a:Nat->Nat->α)(s i:Nat):Ps α:=⟨λn=>match n with
  | 0=>0
  | t+1=>wv a s t i⟩
def cn(a:Nat->Nat->α)(s:Nat):Ps α:=⟨λn=>match n with
  | 0=>1
  | 1=>0-a s s
  | t+2=>0-Sg (λi=>wv a s t i*a i s) s⟩
theorem Zmx(h:Nat->α)(n:Nat):0-Sg h n=Sg (λi=>0-h i) n:=by
  have e:0-Sg h n=(0-1)*Sg h n:=by grind
  rw[e,Sg_mul]
  exact Sg_congr λi _=>by grind
theorem Zjt(a:Nat->Nat->α){s j:Nat}(hj:j<s):unz a s j+Sg (λi=>yv a s i*unz a i j) s=0:=Ps.ext λn=>by
  rw[Ps.c_add,Ps.c_Sg,Ps.c_zero]
  have e:Sg (λi=>(yv a s i*unz a i j).c n) s=Sg (λi=>(yv a s i).c n*(if j=i then 1 else 0)) s+Sg (λi=>if n=0 then 0 else (yv a s i).c (n-1)*(0-a i j)) s:=by
    rw[Sg_add]
    exact Sg_congr λi _=>ZgG _ _ _ _
  rw[e,Sg_one,if_pos hj]
  have u:(unz a s j).c n=if n=1 then 0-a s j else 0:=by
    show (if n=0 then (if j=s then (1:α) else 0) else if n=1 then 0-a s j else 0)=_
    rw[if_neg (show ¬j=s by omega)]
    by_cases h:n=0
    · rw[if_pos h,if_neg ⋯]
    · rw[if_neg h]
  rw[u]
  match n with
  | 0 =>
    rw[if_neg ⋯]
    have e2:Sg (λi=>if (0:Nat)=0 then (0:α) else (yv a s i).c (0-1)*(0-a i j)) s=Sg (λ_=>(0:α)) s:=Sg_congr λi _=>if_pos rfl
    rw[e2,Sg_zero]
    show (0:α)+(0+0)=0
    grind
  | 1 =>
    rw[if_pos rfl]
    have e2:Sg (λi=>if (1:Nat)=0 then (0:α) else (yv a s i).c (1-1)*(0-a i j)) s=Sg (λ_=>(0:α)) s:=Sg_congr λi _=>by
      rw[if_neg ⋯]
      show (0:α)*(0-a i j)=0
      grind
    rw[e2,Sg_zero]
    show 0-a s j+(a s j+0)=0
    grind
  | t+2 =>
    rw[if_neg ⋯]
    have e2:Sg (λi=>if t+2=0 then (0:α) else (yv a s i).c (t+2-1)*(0-a i j)) s=0-Sg (λi=>wv a s t i*a i j) s:=by
      rw[Zmx]
      refine Sg_congr λi _=>?_
      rw[if_neg ⋯]
      show wv a s t i*(0-a i j)=_
      grind
    rw[e2]
    show 0+(Sg (λi=>wv a s t i*a i j) s+_)=0
    grind
theorem Zh7(a:Nat->Nat->α)(s:Nat):unz a s s+Sg (λi=>yv a s i*unz a i s) s=cn a s:=Ps.ext λn=>by
  rw[Ps.c_add,Ps.c_Sg]
  have e:Sg (λi=>(yv a s i*unz a i s).c n) s=Sg (λi=>if n=0 then 0 else (yv a s i).c (n-1)*(0-a i s)) s:=Sg_congr λi hi=>by
    show (yv a s i*lin (if s=i then 1 else 0) (0-a i s)).c n=_
    rw[ZgG,if_neg (show ¬s=i by omega)]
    grind
  rw[e]
  have u:(unz a s s).c n=if n=0 then 1 else if n=1 then 0-a s s else 0:=by
    show (if n=0 then (if s=s then (1:α) else 0) else if n=1 then 0-a s s else 0)=_
    rw[if_pos rfl]
  rw[u]
  match n with
  | 0 =>
    rw[if_pos rfl]
    have e2:Sg (λi=>if (0:Nat)=0 then (0:α) else (yv a s i).c (0-1)*(0-a i s)) s=Sg (λ_=>(0:α)) s:=Sg_congr λi _=>if_pos rfl
    rw[e2,Sg_zero]
    show (1:α)+0=1
    grind
  | 1 =>
    rw[if_neg ⋯,if_pos rfl]
    have e2:Sg (λi=>if (1:Nat)=0 then (0:α) else (yv a s i).c (1-1)*(0-a i s)) s=Sg (λ_=>(0:α)) s:=Sg_congr λi _=>by
      rw[if_neg ⋯]
      show (0:α)*(0-a i s)=0
      grind
    rw[e2,Sg_zero]
    show 0-a s s+0=0-a s s
    grind
  | t+2 =>
    rw[if_neg ⋯,if_neg ⋯]
    show 0+_=0-Sg (λi=>wv a s t i*a i s) s
    rw[Zmx]
    have e2:Sg (λi=>if t+2=0 then (0:α) else (yv a s i).c (t+2-1)*(0-a i s)) s=Sg (λi=>0-wv a s t i*a i s) s:=Sg_congr λi _=>by
      rw[if_neg ⋯]
      show wv a s t i*(0-a i s)=_
      grind
    rw[e2]
    grind
theorem ZkQ(a:Nat->Nat->α)(r:Nat)(f g:Nat->α):Zbg (Zbg a r f) r g=Zbg a r g:=by
  funext i j
  unfold Zbg
  split
  · rfl
  · rfl
theorem ZiL{s:Nat}(E:Nat->Nat->α)(y:Nat->α):∀k,k<=s->det (s+1) (Zbg E s λj=>E s j+Sg (λi=>y i*E i j) k)=det (s+1) E
  | 0,_=>by
    have e:(λj=>E s j+Sg (λi=>y i*E i j) 0)=E s:=by funext j; show E s j+0=_; grind
    rw[e,Zci]
  | k+1,hk=>by
    rw[<-ZiL E y k ⋯]
    have h:=ZlV (n:=s+1) (a:=Zbg E s λj=>E s j+Sg (λi=>y i*E i j) k) (r:=s) (s:=k) (y k) ⋯ ⋯ ⋯
    rw[ZkQ] at h
    rw[<-h]
    congr 1
    congr 1
    funext j
    unfold Zbg
    rw[if_pos rfl,if_neg (show ¬k=s by omega)]
    show E s j+(Sg (λi=>y i*E i j) k+y k*E k j)=_
    grind
def qz(n:Nat)(a:Nat->Nat->α):Ps α:=det n (unz a)
theorem qz_step(a:Nat->Nat->α)(s:Nat):qz (s+1) a=cn a s*qz s a:=by
  show det (s+1) (unz a)=_
  rw[<-ZiL (unz a) (yv a s) s (Q4 s),Zfr]
  · have e1:Zbg (unz a) s (λj=>unz a s j+Sg (λi=>yv a s i*unz a i j) s) s s=cn a s:=by
      unfold Zbg
      rw[if_pos rfl]
      exact Zh7 a s
    rw[e1]
    congr 1
    exact Za7 λi j hi _=>by unfold Zbg; rw[if_neg ⋯]
  · intro j hj
    unfold Zbg
    rw[if_pos rfl]
    exact Zjt a hj
theorem Zh8:∀j,sgn (Ps α) j=Ps.con (sgn α j)
  | 0=>rfl
  | j+1=>Ps.ext λn=>by
    show (0-sgn (Ps α) j).c n=(if n=0 then 0-sgn α j else 0)
    rw[Ps.c_sub,Zh8 j,Ps.c_zero]
    show 0-(if n=0 then sgn α j else 0)=_
    split <;> grind
theorem term_c(j:Nat)(x y:α)(D:Ps α)(n:Nat):(sgn (Ps α) j*lin x y*D).c n=sgn α j*(x*D.c n+(if n=0 then 0 else y*D.c (n-1))):=by
  have e:sgn (Ps α) j*lin x y*D=sgn (Ps α) j*(D*lin x y):=by generalize lin x y=L; grind
  rw[e,Zh8]
  show (Ps.mul (Ps.con (sgn α j)) (D*lin x y)).c n=_
  rw[Ps.con_mul,ZgG]
  split <;> grind
theorem Zfs:∀(n:Nat) (A B:Nat->Nat->α),(∀m,n<m->(det n λi j=>lin (A i j) (B i j)).c m=0)/\(det n λi j=>lin (A i j) (B i j)).c n=det n B
  | 0,A,B=>by
    refine ⟨λm hm=>?_,?_⟩
    · show (1:Ps α).c m=0
      rw[Ps.c_one,if_neg ⋯]
    · show (1:Ps α).c 0=1
      rw[Ps.c_one,if_pos rfl]
  | n+1,A,B=>by
    have ih:=λj=>Zfs n (λi k=>A (i+1) (skip j k)) (λi k=>B (i+1) (skip j k))
    have e:∀m,(det (n+1) λi j=>lin (A i j) (B i j)).c m=Sg (λj=>sgn α j*(A 0 j*(det n λi k=>lin (A (i+1) (skip j k)) (B (i+1) (skip j k))).c m+(if m=0 then 0 else B 0 j*(det n λi k=>lin (A (i+1) (skip j k)) (B (i+1) (skip j k))).c (m-1)))) (n+1):=λm=>by
      show (Sg (λj=>sgn (Ps α) j*lin (A 0 j) (B 0 j)*det n (λi k=>lin (A (i+1) (skip j k)) (B (i+1) (skip j k)))) (n+1)).c m=_
      rw[Ps.c_Sg]
      exact Sg_congr λj _=>term_c _ _ _ _ _
    refine ⟨λm hm=>?_,?_⟩
    · rw[e m]
      have z:∀j,j<n+1->sgn α j*(A 0 j*(det n λi k=>lin (A (i+1) (skip j k)) (B (i+1) (skip j k))).c m+(if m=0 then 0 else B 0 j*(det n λi k=>lin (A (i+1) (skip j k)) (B (i+1) (skip j k))).c (m-1)))=0:=λj _=>by
        rw[(ih j).1 m ⋯,if_neg ⋯,(ih j).1 (m-1) ⋯]
        grind
      rw[Sg_congr z,Sg_zero]
    · rw[e (n+1)]
      show _=Sg (λj=>sgn α j*B 0 j*det n (λi k=>B (i+1) (skip j k))) (n+1)
      refine Sg_congr λj _=>?_
      rw[(ih j).1 (n+1) ⋯,if_neg ⋯,show n+1-1=n by omega,(ih j).2]
      generalize (det n _:α)=D
      grind
theorem qz_deg(n:Nat)(a:Nat->Nat->α){m:Nat}(h:n<m):(qz n a).c m=0:=(Zfs n _ _).1 m h
def cv(a:Nat->Nat->α)(s:Nat)(u:Nat->α):Nat->Nat->α
  | 0,i=>u i
  | t+1,i=>Sg (λk=>a i k*cv a s u t k) s
theorem ZoF(a:Nat->Nat->α)(s:Nat):∀(t:Nat) (u:Nat->α) (i:Nat),cv a s (cv a s u 1) t i=cv a s u (t+1) i
  | 0,u,i=>rfl
  | t+1,u,i=>by
    show Sg (λk=>a i k*cv a s (cv a s u 1) t k) s=Sg (λk=>a i k*cv a s u (t+1) k) s
    exact Sg_congr λk _=>by rw[ZoF a s t u k]
theorem wv_cv(a:Nat->Nat->α)(s:Nat):∀(t:Nat) (u:Nat->α),Sg (λi=>wv a s t i*u i) s=Sg (λj=>a s j*cv a s u t j) s
  | 0,u=>rfl
  | t+1,u=>by
    have e:Sg (λi=>wv a s (t+1) i*u i) s=Sg (λi=>Sg (λl=>wv a s t l*(a l i*u i)) s) s:=Sg_congr λi _=>by
      show Sg (λl=>wv a s t l*a l i) s*u i=_
      have e1:Sg (λl=>wv a s t l*a l i) s*u i=u i*Sg (λl=>wv a s t l*a l i) s:=by grind
      rw[e1,Sg_mul]
      exact Sg_congr λl _=>by grind
    rw[e,Sg_comm]
    have e2:Sg (λj=>Sg (λi=>wv a s t j*(a j i*u i)) s) s=Sg (λl=>wv a s t l*cv a s u 1 l) s:=Sg_congr λl _=>by
      rw[<-Sg_mul]; rfl
    rw[e2,wv_cv a s t (cv a s u 1)]
    exact Sg_congr λj _=>by rw[ZoF]
end
end My.Rg
namespace My
open PySem L2 PyProof.Rows
section
variable{κ:KX}
theorem Zej(f g:List κ.F):∀k,Zgy f g k=Rg.Sg (λi=>f.getD i 0*g.getD i 0) k
  | 0=>rfl
  | k+1=>by show Zgy f g k+_=Rg.Sg _ k+_; rw[Zej f g k]
noncomputable def coL(f:Rg.Ps κ.F)(n:Nat):List κ.F:=(List.range n).map f.c
theorem Zbp(f:Rg.Ps κ.F)(n:Nat):(coL f n).length=n:=by unfold coL; rw[Q1,Wd]
theorem ZeM(f:Rg.Ps κ.F){n i:Nat}(h:i<n):(coL f n).getD i 0=f.c i:=by
  unfold coL
  rw[Q3,Qa,Wq h]
  rfl
theorem ZeN{f:List κ.F}{i:Nat}(h:f.length<=i):f.getD i 0=0:=by
  rw[Q3,U4 h]; rfl
theorem ZgH(f:Rg.Ps κ.F)(n:Nat):coL f (n+1)=coL f n++[f.c n]:=by
  unfold coL
  rw[List.range_succ,Qn]
  rfl
theorem ZkR{f:Rg.Ps κ.F}{n:Nat}{x:κ.F}(h:x∈coL f n):∃i,i<n/\x=f.c i:=by
  obtain ⟨i,hi,rfl⟩:=Ql.mp h
  exact ⟨i,Wr.mp hi,rfl⟩
noncomputable def pN(f g:List κ.F)(place:Nat):κ.F:=Rg.Sg (λi=>f.getD i 0*g.getD (place-i) 0) (place+1)
theorem Zmy(h:Nat->κ.F)(lo:Nat)(z:∀i,i<lo->h i=0):∀k,Rg.Sg h (lo+k)=Rg.Sg (λi=>h (lo+i)) k
  | 0=>by
    show Rg.Sg h lo=0
    rw[Rg.Sg_congr z,Rg.Sg_zero]
  | k+1=>by
    show Rg.Sg h (lo+k)+h (lo+k)=_+h (lo+k)
    rw[Zmy h lo z k]
theorem ZoG{a:Nat->Nat->κ.F}{s place:Nat}(h:place<s+2):pN (coL (Rg.cn a s) (s+2)) (coL (Rg.qz s a) (s+1)) place=(Rg.qz (s+1) a).c place:=by
  rw[Rg.qz_step,Rg.Ps.c_mul]
  unfold pN
  refine Rg.Sg_congr λi hi=>?_
  rw[ZeM _ ⋯]
  by_cases q:place-i<s+1
  · rw[ZeM _ q]
  · rw[ZeN (by rw[Zbp]; omega),Rg.qz_deg s a (show s<place-i by omega)]
abbrev EE:Nat:=2^200
abbrev GG:Nat:=7*2^200
theorem ZlW{h:Nat->κ.F}{M:Nat}:∀k,(∀i,i<k->QN κ 1 M (h i))->QN κ 1 (k*M) (Rg.Sg h k)
  | 0,_=>QN.zero
  | k+1,e=>by
    rw[Nat.succ_mul]
    exact QN.add ∅ (ZlW k λi hi=>e i ⋯) (e k ⋯)
theorem QN.mul1{M N:Nat}{x y:κ.F}(h:QN κ 1 M x)(g:QN κ 1 N y):QN κ 1 (M*N) (x*y):=h.mul g
theorem QN.neg1{M:Nat}{x:κ.F}(h:QN κ 1 M x):QN κ 1 M (0-x):=by
  cases κ with
  | r p hp=>exact trivial
  | q =>
    obtain ⟨X,rfl,l⟩:=h
    refine ⟨-X,?_,by rw[Int.natAbs_neg]; exact l⟩
    show (0:Rat)-Rat.divInt X 1=Rat.divInt (-X) 1
    rw[<-Rat.neg_divInt]
    generalize Rat.divInt X 1=z
    grind
theorem qn1:QN κ 1 1 (1:κ.F):=by
  cases κ with
  | r p hp=>exact trivial
  | q=>exact ⟨1,by show (1:Rat)=Rat.divInt 1 1; decide +kernel,∅⟩
theorem Zez{D:Int}{M:Nat}{A:List (List κ.F)}(h:AllR (QN κ D M) A)(i j:Nat):QN κ D M (ent A i j):=by
  unfold ent
  by_cases q:j<(A.getD i []).length
  · refine h.getD i _ ?_
    rw[Q3 (l:=A.getD i []),Q2 q]
    exact Qf _
  · rw[ZeN ⋯]
    exact QN.zero
theorem ZlX{a:Nat->Nat->κ.F}{s:Nat}(h:∀i j,QN κ 1 EE (a i j))(hs:s<=7):∀t i,QN κ 1 (GG^t*EE) (Rg.cv a s (λi=>a i s) t i)
  | 0,i=>(h i s).mono (by rw[Nat.pow_zero,Uw]; exact Q4 _)
  | t+1,i=>by
    refine QN.mono (ZlW (M:=EE*(GG^t*EE)) s λk _=>(h i k).mul1 (ZlX h hs t k)) ?_
    rw[Wc,Wb (GG^t) GG EE,show GG*EE=7*(EE*EE) by rw[show GG=7*EE from rfl,Wb],<-Wb EE (GG^t) EE,W7 EE (GG^t),Wb (GG^t) EE EE,Nat.mul_left_comm (GG^t) 7]
    exact W3 _ hs
theorem Zmz{a:Nat->Nat->κ.F}{s:Nat}(h:∀i j,QN κ 1 EE (a i j))(hs:s<=7)(t:Nat):QN κ 1 (GG^(t+2)) (Rg.Sg (λj=>a s j*Rg.cv a s (λi=>a i s) t j) s):=by
  refine QN.mono (ZlW (M:=EE*(GG^t*EE)) s λk _=>(h s k).mul1 (ZlX h hs t k)) ?_
  have e:GG^(t+2)=49*(EE*(GG^t*EE)):=by
    rw[show t+2=t+1+1 from rfl,Wc,Wc,Wb,show GG*GG=49*(EE*EE) by rw[show GG=7*EE from rfl,Nat.mul_mul_mul_comm],<-Wb EE (GG^t) EE,W7 EE (GG^t),Wb (GG^t) EE EE,Nat.mul_left_comm (GG^t) 49]
  rw[e]
  exact W3 _ ⋯
theorem ZmA(a:Nat->Nat->κ.F)(s t:Nat):(Rg.cn a s).c (t+2)=0-Rg.Sg (λj=>a s j*Rg.cv a s (λi=>a i s) t j) s:=by
  show 0-Rg.Sg (λi=>Rg.wv a s t i*a i s) s=_
  rw[Rg.wv_cv a s t (λi=>a i s)]
theorem ZoH{a:Nat->Nat->κ.F}{s:Nat}(h:∀i j,QN κ 1 EE (a i j))(hs:s<=7):∀i,QN κ 1 (GG^i) ((Rg.cn a s).c i)
  | 0=>qn1
  | 1=>(h s s).neg1.mono (by rw[Nat.pow_one]; show EE<=7*EE; omega)
  | t+2=>by
    rw[ZmA]
    exact (Zmz h hs t).neg1
theorem Znx{a:Nat->Nat->κ.F}(h:∀i j,QN κ 1 EE (a i j)):∀s,s<=7->∀i,QN κ 1 (8^s*GG^i) ((Rg.qz s a).c i)
  | 0,_,i=>by
    show QN κ 1 _ ((1:Rg.Ps κ.F).c i)
    rw[Rg.Ps.c_one]
    by_cases q:i=0
    · rw[if_pos q,q]; exact qn1
    · rw[if_neg q]; exact QN.zero
  | s+1,hs,i=>by
    by_cases q:i<=s+1
    · rw[Rg.qz_step,Rg.Ps.c_mul]
      refine QN.mono (ZlW (M:=8^s*GG^i) (i+1) λk hk=>?_) ?_
      · refine QN.mono ((ZoH h ⋯ k).mul1 (Znx h s ⋯ (i-k))) ?_
        rw[Nat.mul_left_comm,<-U0,show k+(i-k)=i by omega]
        exact Q4 _
      · rw[Wc,W7 (8^s) 8,Wb]
        exact W3 _ ⋯
    · rw[Rg.qz_deg (s+1) a ⋯]
      exact QN.zero
theorem gg5{i:Nat}(hi:i<=7):GG^i<=10^500:=Q0 (Qd ∅ hi) ∅
theorem gg4{i:Nat}(hi:i<=6):GG^i*EE<=10^500:=Q0 (W3 _ (Qd ∅ hi)) ∅
theorem qz5{s i:Nat}(hs:s<=7)(hi:i<=7):8^s*GG^i<=10^500:=Q0 (Qm (Qd ∅ hs) (Qd ∅ hi)) ∅
theorem Zhp{M:Nat}{x:κ.F}(h:QN κ 1 M x)(l:M<=10^500):B1 κ x:=h.b1 ∅ (Q7 (show 1<2^1 by decide) (Qd ∅ ∅)) (Qs l (Q7 (show 10^500<2^2000 by decide) (Qd ∅ ∅)))
end
inductive ZbB (CF CR:Addr) (vs:List V) (H:Hp) (Q:VK) (zE:XK):Prop
  | mk (κ:KX) (s fa ga:Addr) (xs ys:List V) (f g:List κ.F) (place M N:Nat) (_:vs=[.ref s,.ref fa,.ref ga,.int (place:Int)]) (_:KdX CF CR κ H s) (_:H fa=some (.lst xs)) (_:AllG (NR κ H) xs f) (_:H ga=some (.lst ys)) (_:AllG (NR κ H) ys g) (_:place+1<=f.length) (_:f.length<=90) (_:g.length<=90) (_:(∀x∈f,QN κ 1 M x)) (_:(∀x∈g,QN κ 1 N x)) (_:M<=10^500) (_:N<=10^500) (_:∀H' v,Same H H'->NR κ H' v (pN f g place)->Q v H'):ZbB CF CR vs H Q zE
inductive Zdy (vs:List V) (H:Hp) (Q:VK) (zE:XK):Prop
  | mk (κ:KX) (a:Addr) (rs:List Addr) (R:List (List κ.F)) (m j:Nat) (_:vs=[.ref a,.int (j:Int)]) (_:H a=some (.lst (rs.map V.ref))) (_:RowsX κ H rs R) (_:Wid m R) (_:R.length<=100) (_:j<m) (_:∀(H':Hp) (D:Addr) (ys:List V),Same H H'->H D=none->H' D=some (.lst ys)->AllG (NR κ H') ys (R.map λr=>r.getD j 0)->Q (.ref D) H'):Zdy vs H Q zE
inductive Zft (CF CR:Addr) (vs:List V) (H:Hp) (Q:VK) (zE:XK):Prop
  | mk (κ:KX) (s tb:Addr) (rs:List Addr) (A:List (List κ.F)) (n size:Nat) (_:vs=[.ref s,.ref tb,.int (size:Int)]) (_:KdX CF CR κ H s) (_:H tb=some (.lst (rs.map V.ref))) (_:RowsX κ H rs A) (_:A.length=n) (_:Wid n A) (_:n<=7) (_:size<n) (_:AllR (QN κ 1 EE) A) (_:∀(H':Hp) (D:Addr) (ys:List V),Same H H'->H' D=some (.lst ys)->AllG (NR κ H') ys (coL (Rg.cn (ent A) size) (size+2))->Q (.ref D) H'):Zft CF CR vs H Q zE
inductive Zek (CF CR:Addr) (vs:List V) (H:Hp) (Q:VK) (zE:XK):Prop
  | mk (κ:KX) (s tb:Addr) (rs:List Addr) (A:List (List κ.F)) (n:Nat) (_:vs=[.ref s,.ref tb]) (_:KdX CF CR κ H s) (_:H tb=some (.lst (rs.map V.ref))) (_:RowsX κ H rs A) (_:A.length=n) (_:Wid n A) (_:n<=7) (_:AllR (QN κ 1 EE) A) (_:∀(H':Hp) (D:Addr) (ys:List V),Same H H'->H' D=some (.lst ys)->AllG (NR κ H') ys (coL (Rg.qz n (ent A)) (n+1))->Q (.ref D) H'):Zek CF CR vs H Q zE
end My
namespace My
open PySem L2 PyProof.Rows
theorem ZlY(xs:List V){a b:Nat}(hab:a<=b)(hb:b<=xs.length):ZeT xs (some (a:Int)) (some (b:Int))=(xs.drop a).take (b-a):=by
  unfold ZeT
  rw[HT.sIx_nat,HT.sIx_nat,Nat.min_eq_left (show a<=xs.length by omega),Nat.min_eq_left hb]
theorem ZkS{κ:KX}{H:Hp}{xs:List V}{f:List κ.F}(al:AllG (NR κ H) xs f){a k:Nat}:AllG (NR κ H) ((xs.drop a).take k) ((f.drop a).take k):=Zgx (al.drop a) k
section
variable{P:Program}{w:World}{K:PySem.W.Frag}{mg:Str->Option Value}{base:Heap}{CF CR cN cF:Addr}
theorem sc_product_number:FnScope ["kind", "some", "others", "place", "start", "bound"] ["kind", "some", "others", "place"] (Zah ZbI):=‹2›
theorem Zel(h:Here K mg "product_number" ZbI) (T:Nm mg) (Tmax:mg "max" = none) (Tmin:mg "min" = none) (md:ZgC P w K mg base CF CR):Has P w K mg base "product_number" 4 ["kind", "some", "others", "place"] (ZbB CF CR):=by
  refine h.has (λf fd F=>F.binds λ_ _ _ _ _ _ us hl=>by obtain ⟨_,_,_,_,rfl⟩:=ZnV hl; exact rfl) λf fd F=>F.ok sc_product_number (λvs H Q E h=>?_) (λcdv A outer s H vs Q E hr h=>?_)
  · obtain ⟨_,_,_,_,_,_,_,_,_,_,_,rfl,_⟩:=h
    rfl
  obtain ⟨κ,sk,fa,ga,xs,ys,f,g,pl,M,N,rfl,hk,hF,aF,hG,aG,lp,l9,g9,qf,qg,hM,hN,k⟩:=h
  have nd:=sc_product_number.nd
  refine ⟨_,(Zab (Zaj (i:=4) nd rfl (Or.inl rfl) (Zak (ZjN rfl) (by rfl) Tmax PyProof.Rows.Boot.max (Zaa Zad (Zaa (Zao Za0 (Zao ZcK (pv 3) (Zak Zai (by rfl) T.len boot_len (Zaa (pv 2) Zac))) Zad) Zac))))
    (Zab (Zaj (i:=5) nd rfl (Or.inl rfl) (Zak (ZgS rfl) (by rfl) Tmin PyProof.Rows.Boot.min (Zaa (Zao Za0 (pv 3) Zad) (Zaa (Zak Zai (by rfl) T.len boot_len (Zaa (pv 1) Zac)) Zac))))
    (Zae (Zal (ZaZ (pv 0) hr (Zaa (Zbl ZbQ (pv 1) (Zbs (pv 4)) (Zbs (pv 5))) (Zaa (ZaX ["each"] [(2, "others"),(3, "place")] rfl (ZeO (by rfl) T.range (Zaa (pv 4) (Zaa (pv 5) Zac))) (by exact λ_ _ _ _=>(Zar (i:=0) (show (["each", "others", "place"]:List Str).Nodup by decide +kernel) rfl (Or.inl rfl))) (by exact λ_ _ _ _=>(Zam (Zdb K rfl) (pv 1) (Zao ZcK (pv 2) (pv 0)) (λ_ _=>rfl))) ⟨⟨rfl,rfl,Or.inl rfl⟩,⟨⟨rfl,rfl,Or.inl rfl⟩,trivial⟩⟩) Zac))))))),?_⟩
  have lx:=aF.1
  have ly:=aG.1
  refine ⟨_,rfl,_,rfl,ga,_,rfl,.inl (SqL.of hG),_,_,rfl,rfl,_,_,rfl,rfl,_,_,rfl,?_⟩
  obtain ⟨st,est,hst,hst2⟩:∃st:Nat,(if (pl:Int)-(ys.length:Int)+1>0 then (pl:Int)-(ys.length:Int)+1 else 0)=(st:Int)/\st<=pl+1/\(st=pl+1-g.length):=by
    refine ⟨pl+1-g.length,?_,⋯,rfl⟩
    split <;> omega
  show ZeA 4 (V.int (if (pl:Int)-(ys.length:Int)+1>0 then (pl:Int)-(ys.length:Int)+1 else 0)) _ H _
  rw[est]
  refine ⟨_,rfl,_,_,rfl,rfl,_,rfl,fa,_,rfl,.inl (SqL.of hF),_,_,rfl,?_⟩
  have eb:(if (xs.length:Int)<(pl:Int)+1 then (xs.length:Int) else (pl:Int)+1)=((pl+1:Nat):Int):=by split <;> omega
  show ZeA 5 (V.int (if (xs.length:Int)<(pl:Int)+1 then (xs.length:Int) else (pl:Int)+1)) _ H _
  rw[eb]
  obtain ⟨Cd,dxd,fsd,psd,dvd,spd,k1,k2,k3,k4,rfl,k5⟩:=md κ H sk hk
  refine ⟨_,rfl,sk,Cd,dxd,fsd,psd,_,spd,rfl,k1,k2,k3.mono ∅,k4,_,rfl,_,rfl,_,rfl,_,rfl,_,rfl,fa,xs,rfl,SqL.of hF,λsl nsl=>?_⟩
  rw[ZlY xs hst ⋯]
  have Ss:=Zag nsl (.lst ((xs.drop st).take (pl+1-st)))
  have qs:=Zaf (H:=H) (a:=sl) (o:=.lst ((xs.drop st).take (pl+1-st)))
  generalize upd H sl (.lst ((xs.drop st).take (pl+1-st)))=H1 at *
  refine ⟨_,rfl,_,rfl,_,_,rfl,⟨⋯,⋯,⋯,⋯⟩,?_⟩
  have en:((((pl+1:Nat):Int))-(st:Int)).toNat=pl+1-st:=by omega
  rw[en]
  refine Zbu (lo:=(st:Int)) (n:=pl+1-st) (λq zs H2=>H2=H1/\AllG (NR κ H1) zs ((List.range q).map λi=>g.getD (pl-(st+i)) 0)) ⋯ ⟨rfl,.nil⟩ ?_ ?_
  · rintro q zs H2 hq _ ⟨rfl,e⟩
    obtain ⟨v,hv,nv⟩:=Zdw aG (i:=pl-(st+q)) ⋯
    refine ⟨_,rfl,_,rfl,_,rfl,_,_,rfl,rfl,ga,_,_,v,rfl,rfl,SqL.of (Ss _ _ hG),?_,rfl,?_⟩
    · rw[show (pl:Int)-((st:Int)+(q:Int))=((pl-(st+q):Nat):Int) by omega]
      exact ZaF hv
    · rw[List.range_succ,Qn]
      exact e.append (.one (nv.same Ss))
  rintro zs H2 _ ⟨rfl,e⟩ lz nlz
  have Sz:=Zag nlz (.lst zs)
  have qz:=Zaf (H:=H2) (a:=lz) (o:=.lst zs)
  generalize upd H2 lz (.lst zs)=H3 at *
  have S03:=Ss.trans Sz
  have lsl:((f.drop st).take (pl+1-st)).length=pl+1-st:=by rw[Qi,Wj]; omega
  refine k5 H3 sl lz _ zs ((f.drop st).take (pl+1-st)) ((List.range (pl+1-st)).map λi=>g.getD (pl-(st+i)) 0) 1 1 M N _ S03 (Sz _ _ qs) qz (ZkS (aF.mono λ_ _ n=>n.same S03)) (e.mono λ_ _ n=>n.same Sz) (by rw[lsl,Q1,Wd]) ⋯ (λx hx=>qf x (List.mem_of_mem_drop (Wl hx))) (λx hx=>?_) ∅ ∅ ∅ ∅ hM hN λH4 v S4 nv=>?_
  · obtain ⟨i,hi,rfl⟩:=Ql.mp hx
    by_cases q:pl-(st+i)<g.length
    · refine qg _ ?_
      rw[Q3,Q2 q]
      exact Qf _
    · rw[ZeN ⋯]; exact QN.zero
  · refine k H4 v (S03.trans S4) ?_
    have ev:ZfD ((f.drop st).take (pl+1-st)) ((List.range (pl+1-st)).map λi=>g.getD (pl-(st+i)) 0)=pN f g pl:=by
      unfold ZfD pN
      rw[lsl,Zej,show pl+1=st+(pl+1-st) by omega,Zmy (λi=>f.getD i 0*g.getD (pl-i) 0) st (λi hi=>by rw[ZeN (f:=g) ⋯]; grind),show st+(pl+1-st)-st=pl+1-st by omega]
      refine Rg.Sg_congr λi hi=>?_
      have e1:((f.drop st).take (pl+1-st)).getD i 0=f.getD (st+i) 0:=by
        rw[Q3,Wp,if_pos hi,List.getElem?_drop,<-Q3]
      have e2:((List.range (pl+1-st)).map λi=>g.getD (pl-(st+i)) 0).getD i 0=g.getD (pl-(st+i)) 0:=by
        rw[Q3,Qa,Wq hi]; rfl
      rw[e1,e2]
    rw[<-ev]
    exact nv
theorem Zhq:FnScope ["table", "place"] ["table", "place"] (Zah Zdn):=‹2›
theorem Zh9(h:Here K mg "column_at" Zdn):Has P w K mg base "column_at" 1 ["table", "place"] Zdy:=by
  refine h.has (λf fd F=>F.binds λ_ _ _ _ _ _ us hl=>by obtain ⟨_,_,rfl⟩:=ZdJ hl; exact rfl) λf fd F=>F.ok Zhq (λvs H Q E h=>?_) (λcdv A outer s H vs Q E hr h=>?_)
  · obtain ⟨_,_,_,_,_,_,rfl,_⟩:=h
    rfl
  obtain ⟨κ,a,rs,R,m,j,rfl,hA,rx,wd,n9,jm,k⟩:=h
  refine ⟨_,(Zae (Zal (ZaX ["row"] [(1, "place")] rfl (ZaC (pv 0)) (by exact λ_ _ _ _=>(Zar (i:=0) (show (["row", "place"]:List Str).Nodup by decide +kernel) rfl (Or.inl rfl))) (by exact λ_ _ _ _=>(Zam (Zdb K rfl) (pv 0) (pv 1) (λ_ _=>rfl))) ⟨⟨rfl,rfl,Or.inl rfl⟩,trivial⟩))),?_⟩
  have lr:=rx.1
  refine ⟨_,rfl,a,rfl,⟨_,SqL.of hA⟩,?_⟩
  refine ZaL (K:=K) (a:=a) (xs:=rs.map V.ref) (λi ys H2=>H2=H/\AllG (NR κ H) ys ((R.take i).map λr=>r.getD j 0)) (by rw[Q1]; omega) ⟨rfl,.nil⟩ (λi ys H2 _ q=>by rw[q.1]; exact SqL.of hA) ?_ ?_
  · rintro i x ys H2 hx hl ⟨rfl,e⟩
    obtain ⟨b,hb,rfl⟩:=Zaw hx
    obtain ⟨f,hf⟩:=Zax hb lr
    obtain ⟨zs,hz,al⟩:=rx.2 i b f hb hf
    obtain ⟨v,hv,nv⟩:=Zdw al (i:=j) (by rw[wd f (Q8 hf)]; exact jm)
    refine ⟨_,rfl,_,rfl,b,_,_,v,rfl,rfl,SqL.of hz,ZaF hv,rfl,?_⟩
    rw[Qq,hf,Qn]
    exact e.append (.one nv)
  · rintro ys H2 hl ⟨rfl,e⟩ D nD
    rw[Q1,lr,Qz] at e
    have SD:=Zag nD (.lst ys)
    exact k _ D ys SD nD Zaf (e.mono λ_ _ n=>n.same SD)
end
end My
namespace L2
open PySem PySem.Spec PyProof.Rows
section
variable{X:Cx}
theorem ZlZ(K:PySem.W.Frag)(h:X.K=K):SlR X (ZpP K):=by subst h; exact ZbQ
end
end L2
namespace My
open PySem L2 PyProof.Rows
theorem ZiM{κ:KX}{A:List (List κ.F)}{s:Nat}(h:s<=A.length):A.take s=(List.range s).map λi=>A.getD i []:=by
  apply List.ext_getElem?
  intro i
  rw[Wp,Qa]
  by_cases q:i<s
  · rw[if_pos q,Wq q]
    show A[i]?=some (A.getD i [])
    rw[Q3,Q2 ⋯]
    rfl
  · rw[if_neg q,U4 (by rw[Wd]; omega)]
    rfl
noncomputable def cvL{κ:KX}(a:Nat->Nat->κ.F)(s t:Nat):List κ.F:=(List.range s).map (Rg.cv a s (λi=>a i s) t)
theorem Zia{κ:KX}(a:Nat->Nat->κ.F)(s t:Nat):(cvL a s t).length=s:=by unfold cvL; rw[Q1,Wd]
theorem ZkT{κ:KX}{A:List (List κ.F)}{n s t i:Nat}(wd:Wid n A)(hs:s<=n)(hi:i<A.length):ZfD ((A.getD i []).take s) (cvL (ent A) s t)=Rg.Sg (λj=>ent A i j*Rg.cv (ent A) s (λi=>ent A i s) t j) s:=by
  have w:=wd.get hi
  have l:((A.getD i []).take s).length=s:=by rw[Qi]; omega
  unfold ZfD
  rw[l,Zej]
  refine Rg.Sg_congr λj hj=>?_
  have e1:((A.getD i []).take s).getD j 0=ent A i j:=by
    unfold ent
    rw[Q3,Wp,if_pos hj,<-Q3]
  have e2:(cvL (ent A) s t).getD j 0=Rg.cv (ent A) s (λi=>ent A i s) t j:=by
    unfold cvL
    rw[Q3,Qa,Wq hj]
    rfl
  rw[e1,e2]
theorem Zny{κ:KX}{A:List (List κ.F)}{n s t:Nat}(wd:Wid n A)(hs:s<=n)(hn:A.length=n):((A.take s).map (List.take s)).map (λr=>ZfD r (cvL (ent A) s t))=cvL (ent A) s (t+1):=by
  rw[ZiM ⋯,List.map_map,List.map_map]
  unfold cvL
  refine List.map_congr_left λi hi=>?_
  have hi:=Wr.mp hi
  exact ZkT wd hs ⋯
theorem ZoI{κ:KX}{A:List (List κ.F)}{n s:Nat}(hs:s<=n)(hn:A.length=n):(A.take s).map (λr=>r.getD s 0)=cvL (ent A) s 0:=by
  rw[ZiM ⋯,List.map_map]
  rfl
section
variable{P:Program}{w:World}{K:PySem.W.Frag}{mg:Str->Option Value}{base:Heap}{CF CR cN cF:Addr}
theorem sc_corner_numbers:FnScope ["kind", "table", "size", "row", "inner", "column", "falling", "turn"] ["kind", "table", "size"] (Zah ZbJ):=‹2›
theorem Zem(h:Here K mg "corner_numbers" ZbJ) (T:Nm mg) (mn:ZcA P w K mg base CF CR) (mm:Zni P w K mg base CF CR) (md:ZgC P w K mg base CF CR) (h_column_at:Has P w K mg base "column_at" 4 ["table", "place"] Zdy) (h_sums_with:Has P w K mg base "sums_with" 4 ["kind", "table", "column"] (ZdS CF CR)):Has P w K mg base "corner_numbers" 5 ["kind", "table", "size"] (Zft CF CR):=by
  refine h.has (λf fd F=>F.binds λ_ _ _ _ _ _ us hl=>by obtain ⟨_,_,_,rfl⟩:=Zew hl; exact rfl) λf fd F=>F.ok sc_corner_numbers (λvs H Q E h=>?_) (λcdv A outer s H vs Q E hr h=>?_)
  · obtain ⟨_,_,_,_,_,_,_,rfl,_⟩:=h
    rfl
  obtain ⟨κ,sk,tb,rs,A,n,sz,rfl,hk,hT,rx,lA,wd,n5,hs,qA,k⟩:=h
  have nd:=sc_corner_numbers.nd
  refine ⟨_,(Zab (Zaj (i:=3) nd rfl (Or.inl rfl) (Zbl ZbQ (Zam Zau (pv 1) (pv 2) (λ_ _=>rfl)) Zcm (Zbs (pv 2))))
    (Zab (Zcf (i:=4) ["each"] [(2, "size")] nd rfl rfl rfl (ZaC (Zbl ZbQ (pv 1) Zcm (Zbs (pv 2)))) (by exact λ_ _ _ _=>(Zar (i:=0) (show (["each", "size"]:List Str).Nodup by decide +kernel) rfl (Or.inl rfl))) (by exact λ_ _ _ _=>(Zbl (ZlZ K rfl) (pv 0) Zcm (Zbs (pv 1)))) ⟨⟨rfl,rfl,Or.inl rfl⟩,trivial⟩)
    (Zab (Zaj (i:=5) nd rfl (Or.inl rfl) (Zan h_column_at hr (by rfl) (Zaa (Zbl ZbQ (pv 1) Zcm (Zbs (pv 2))) (Zaa (pv 2) Zac))))
    (Zab (Zaj (i:=6) nd rfl (Or.inl rfl) (ZaQ (Zaa (ZaS (pv 0) Zdl hr (Zaa Zad Zac)) (Zaa (ZaZ (pv 0) hr (Zaa (ZaS (pv 0) Zdl hr (Zaa Zad Zac)) (Zaa (Zam Zau (Zam Zau (pv 1) (pv 2) (λ_ _=>rfl)) (pv 2) (λ_ _=>rfl)) Zac))) Zac))))
    (Zab (ZaI PassesOwn.never rfl (Zay (by rfl) T.range (Zaa (pv 2) Zac)) (Zar (i:=7) nd rfl (Or.inl rfl)) (Zab (ZaE (ZeC PySem.F.plainAttrs_list PySem.F.slot_list_append PySem.F.type_list_append Za3 (pv 6) (Zaa (ZaZ (pv 0) hr (Zaa (ZaS (pv 0) Zdl hr (Zaa Zad Zac)) (Zaa (ZaZ (pv 0) hr (Zaa (pv 3) (Zaa (pv 5) Zac))) Zac))) Zac)))
      (Zae (Zaj (i:=5) nd rfl (Or.inl rfl) (Zan h_sums_with hr (by rfl) (Zaa (pv 0) (Zaa (pv 4) (Zaa (pv 5) Zac))))))))
    (Zae (Zal (pv 6)))))))),?_⟩
  have lr:=rx.1
  have qe:=λi j=>Zez qA i j
  obtain ⟨ra,xs,ga,hxs,al⟩:=rx.get (i:=sz) ⋯
  have eR:A.getD sz []=A[sz]:=ZaO (Q2 ⋯)
  rw[<-eR] at al
  have lrow:=wd.get (i:=sz) ⋯
  have lxs:xs.length=n:=by rw[al.1]; exact lrow
  refine ⟨_,rfl,_,rfl,tb,_,_,_,rfl,rfl,SqL.of hT,Zbi ga,_,rfl,_,rfl,ra,xs,rfl,SqL.of hxs,λrw_ nrw=>?_⟩
  rw[show ZeT xs none (some (sz:Int))=xs.take sz from ZdO xs sz]
  have Sr:=Zag nrw (.lst (xs.take sz))
  have qr:=Zaf (H:=H) (a:=rw_) (o:=.lst (xs.take sz))
  generalize upd H rw_ (.lst (xs.take sz))=H1 at *
  refine ⟨_,rfl,_,rfl,_,rfl,tb,_,rfl,SqL.of (Sr _ _ hT),λsl nsl=>?_⟩
  have ecut:ZeT (rs.map V.ref) none (some (sz:Int))=(rs.take sz).map V.ref:=by rw[Uo]; exact ZdO _ sz
  rw[ecut]
  have Ssl:=Zag nsl (.lst ((rs.take sz).map V.ref))
  have qsl:=Zaf (H:=H1) (a:=sl) (o:=.lst ((rs.take sz).map V.ref))
  generalize upd H1 sl (.lst ((rs.take sz).map V.ref))=H2 at *
  have S02:=Sr.trans Ssl
  have lrt:(rs.take sz).length=sz:=by rw[Qi]; omega
  refine ⟨sl,rfl,⟨_,SqL.of qsl⟩,?_⟩
  refine ZaL (K:=K) (a:=sl) (xs:=(rs.take sz).map V.ref) (λi ys H3=>∃cs:List Addr,ys=cs.map V.ref/\Same H2 H3/\RowsX κ H3 cs ((A.take i).map (List.take sz))) (by rw[Q1]; omega) ⟨[],rfl,Same.refl _,by rw[W9]; exact .nil⟩ (λi ys H3 _ ⟨as,_,S,_⟩=>SqL.of (S _ _ qsl)) ?_ ?_
  · rintro i x ys H3 hx hl ⟨cs,rfl,S3,rc⟩
    obtain ⟨b,hb,rfl⟩:=Zaw hx
    have hi:i<sz:=by have:=(Qk.mp hb).1; omega
    rw[Wp,if_pos hi] at hb
    obtain ⟨f,hf⟩:=Zax hb lr
    obtain ⟨zs,hz,alz⟩:=rx.2 i b f hb hf
    refine ⟨_,rfl,_,rfl,_,rfl,b,zs,rfl,SqL.of (S3 _ _ (S02 _ _ hz)),λl nl=>?_⟩
    rw[show ZeT zs none (some (sz:Int))=zs.take sz from ZdO zs sz]
    have Sl:=Zag nl (.lst (zs.take sz))
    refine ⟨cs++[l],by rw[Qn]; rfl,S3.trans Sl,?_⟩
    rw[Qq,hf,Qn]
    exact (rc.same Sl).snoc Zaf (Zgx (alz.mono λ_ _ n=>n.same (S02.trans (S3.trans Sl))) sz)
  rintro ys H3 hl ⟨is,rfl,S3,rc⟩ inr ninr
  rw[Q1,lrt] at rc
  have Si:=Zag ninr (.lst (is.map V.ref))
  have qi:=Zaf (H:=H3) (a:=inr) (o:=.lst (is.map V.ref))
  generalize upd H3 inr (.lst (is.map V.ref))=H4 at *
  have S04:=S02.trans (S3.trans Si)
  have rI:=rc.same Si
  refine ⟨_,rfl,_,rfl,_,rfl,tb,_,rfl,SqL.of (S04 _ _ hT),λs2 ns2=>?_⟩
  rw[ecut]
  have S2:=Zag ns2 (.lst ((rs.take sz).map V.ref))
  have q2:=Zaf (H:=H4) (a:=s2) (o:=.lst ((rs.take sz).map V.ref))
  generalize upd H4 s2 (.lst ((rs.take sz).map V.ref))=H5 at *
  have S05:=S04.trans S2
  have rT:RowsX κ H5 (rs.take sz) (A.take sz):=by
    have r5:=rx.same S05
    refine ⟨by rw[Qi,Qi,r5.1],λi a f ha hf=>?_⟩
    rw[Wp] at ha hf
    by_cases q:i<sz
    · rw[if_pos q] at ha hf; exact r5.2 i a f ha hf
    · rw[if_neg q] at ha; cases ha
  refine ⟨_,rfl,κ,s2,rs.take sz,A.take sz,n,sz,rfl,q2,rT,(λf hf=>wd f (Wl hf)),by rw[Qi]; omega,hs,λH6 col cs S6 ncol hcol acol=>?_⟩
  rw[ZoI ⋯ lA] at acol
  have S06:=S05.trans S6
  obtain ⟨C,dx,fs,ps,dvs,sp,c1,c2,c3,c4,rfl,c5⟩:=mn κ H6 sk (hk.same S06)
  refine ⟨_,rfl,sk,C,dx,fs,ps,_,sp,rfl,c1,c2,c3.mono ∅,c4,c5 H6 1 1 _ _ (Same.refl _) ZeD λv1 H7 S7 n1=>?_⟩
  have S07:=S06.trans S7
  obtain ⟨Cm,dxm,fsm,psm,dvm,spm,m1,m2,m3,m4,rfl,m5⟩:=mm κ H7 sk (hk.same S07)
  obtain ⟨C',dx',fs',ps',dvs',sp',d1,d2,d3,d4,rfl,d5⟩:=mn κ H7 sk (hk.same S07)
  obtain ⟨ve,hve,nve⟩:=Zdw al (i:=sz) ⋯
  refine ⟨_,rfl,sk,Cm,dxm,fsm,psm,_,spm,rfl,m1,m2,m3.mono ∅,m4,_,rfl,sk,C',dx',fs',ps',_,sp',rfl,d1,d2,d3.mono ∅,d4,d5 H7 0 0 _ _ (Same.refl _) ZfA λv0 H8 S8 n0=>?_⟩
  have S08:=S07.trans S8
  refine ⟨_,rfl,_,rfl,tb,_,_,_,rfl,rfl,SqL.of (S08 _ _ hT),Zbi ga,_,rfl,ra,_,_,ve,rfl,rfl,SqL.of (S08 _ _ hxs),ZaF hve,?_⟩
  refine m5 H8 v0 ve 0 _ _ S8 n0 (nve.same S08) (Zhp (M:=1) QN.zero ∅) (Zhp (qe sz sz) ∅) λv2 H9 S9 n2=>?_
  refine ⟨(by show 2<=sizeLine; decide),λfl nfl=>?_⟩
  have S69:=S7.trans (S8.trans S9)
  have S09:=S06.trans S69
  have Sf:=Zag nfl (.lst [v1,v2])
  have qf:=Zaf (H:=H9) (a:=fl) (o:=.lst [v1,v2])
  have af:AllG (NR κ (upd H9 fl (.lst [v1,v2]))) [v1,v2] (coL (Rg.cn (ent A) sz) (0+2)):=by
    have a2:AllG (NR κ (upd H9 fl (.lst [v1,v2]))) ([v1]++[v2]) ([(1:κ.F)]++[0-ent A sz sz]):=(AllG.one (((n1.same S8).same S9).same Sf)).append (.one (n2.same Sf))
    exact a2
  generalize upd H9 fl (.lst [v1,v2])=Ha at *
  refine ⟨_,rfl,(sz:Int),rfl,⋯,⋯,?_⟩
  rw[Q6]
  have hR9:H9 rw_=some (.lst (xs.take sz)):=S69 _ _ (S6 _ _ (S2 _ _ (Si _ _ (S3 _ _ (Ssl _ _ qr)))))
  have hI9:H9 inr=some (.lst (is.map V.ref)):=S69 _ _ (S6 _ _ (S2 _ _ qi))
  have rI9:RowsX κ H9 is ((A.take sz).map (List.take sz)):=((rI.same S2).same S6).same S69
  have aR9:AllG (NR κ H9) (xs.take sz) ((A.getD sz []).take sz):=Zgx (al.mono λ_ _ n=>n.same S09) sz
  have ncf:col≠fl:=λz=>by rw[z] at hcol; rw[S69 _ _ hcol] at nfl; cases nfl
  refine ZaG (lo:=0) (n:=sz) (λt σ Hb=>∃(z7:Option V) (col:Addr) (cs ys:List V),σ=[some (.ref sk),some (.ref tb),some (.int (sz:Int)),some (.ref rw_),some (.ref inr),some (.ref col),some (.ref fl),z7]/\Same H9 Hb/\Hb fl=some (.lst ys)/\AllG (NR κ Hb) ys (coL (Rg.cn (ent A) sz) (t+2))/\Hb col=some (.lst cs)/\AllG (NR κ Hb) cs (cvL (ent A) sz t)/\col≠fl) ⟨_,col,cs,_,rfl,Sf,qf,af,Sf _ _ (S69 _ _ hcol),acol.mono (λ_ _ n=>(n.same S69).same Sf),ncf⟩ ?_ ?_
  · rintro t σ Hb ht ⟨z7,col,cs,ys,rfl,Sb,hfl,afl,hcl,acl,ne⟩
    have S0b:=S09.trans Sb
    have lfl:ys.length=t+2:=by rw[afl.1,Zbp]
    obtain ⟨Cm,dxm,fsm,psm,dvm,spm,m1,m2,m3,m4,rfl,m5⟩:=mm κ Hb sk (hk.same S0b)
    obtain ⟨C',dx',fs',ps',dvs',sp',d1,d2,d3,d4,rfl,d5⟩:=mn κ Hb sk (hk.same S0b)
    refine ⟨_,rfl,.inl ⟨rfl,_,SqL.of hfl⟩,_,rfl,sk,Cm,dxm,fsm,psm,_,spm,rfl,m1,m2,m3.mono ∅,m4,_,rfl,sk,C',dx',fs',ps',_,sp',rfl,d1,d2,d3.mono ∅,d4,d5 Hb 0 0 _ _ (Same.refl _) ZfA λv0 Hc Sc n0=>?_⟩
    obtain ⟨Cd,dxd,fsd,psd,dvd,spd,k1,k2,k3,k4,rfl,k5⟩:=md κ Hc sk (hk.same (S0b.trans Sc))
    have S9c:=Sb.trans Sc
    have l1:((A.getD sz []).take sz).length=sz:=by rw[Qi]; omega
    refine ⟨_,rfl,sk,Cd,dxd,fsd,psd,_,spd,rfl,k1,k2,k3.mono ∅,k4,_,rfl,_,rfl,?_⟩
    refine k5 Hc rw_ col _ cs ((A.getD sz []).take sz) (cvL (ent A) sz t) 1 1 EE (GG^t*EE) _ (Same.refl _) (S9c _ _ hR9) (Sc _ _ hcl) (aR9.mono λ_ _ n=>n.same S9c) (acl.mono λ_ _ n=>n.same Sc) (by rw[l1,Zia]) ⋯ (λx hx=>qA.getD sz x (Wl hx)) (λx hx=>?_) ∅ ∅ ∅ ∅ ∅ (gg4 ⋯) λHd vd Sd nvd=>?_
    · obtain ⟨i,_,rfl⟩:=Ql.mp hx
      exact ZlX qe ⋯ t i
    rw[ZkT wd ⋯ ⋯] at nvd
    refine m5 Hd v0 vd 0 _ _ (Sc.trans Sd) (n0.same Sd) nvd (Zhp (M:=1) QN.zero ∅) (Zhp (Zmz qe ⋯ t) (gg5 ⋯)) λv9 He Se n9=>?_
    rw[<-ZmA] at n9
    have Sbe:=Sc.trans (Sd.trans Se)
    have hfe:=Sbe _ _ hfl
    refine ⟨fl,_,_,rfl,rfl,hfe,Q7 (show ys.length<1000 by omega) ∅,?_⟩
    have Of:Off [fl] He (upd He fl (.lst (ys++[v9]))):=ZaH (Same.refl He)
    have afl2:AllG (NR κ (upd He fl (.lst (ys++[v9])))) (ys++[v9]) (coL (Rg.cn (ent A) sz) (t+1+2)):=by
      rw[show t+1+2=(t+2)+1 by omega,ZgH]
      exact (afl.mono λ_ _ n=>(n.same Sbe).off hfe Of).append (.one (n9.off hfe Of))
    have S9f:Same H9 (upd He fl (.lst (ys++[v9]))):=Off.same Of (Sb.trans Sbe) (λz hz=>by rw[Q5.mp hz]; exact nfl)
    have hf2:=Zaf (H:=He) (a:=fl) (o:=.lst (ys++[v9]))
    have hcl2:upd He fl (.lst (ys++[v9])) col=some (.lst cs):=by rw[Zav ne]; exact Sbe _ _ hcl
    have acl2:AllG (NR κ (upd He fl (.lst (ys++[v9])))) cs (cvL (ent A) sz t):=acl.mono λ_ _ n=>(n.same Sbe).off hfe Of
    generalize upd He fl (.lst (ys++[v9]))=Hf at *
    refine ⟨_,rfl,_,rfl,_,rfl,κ,sk,inr,col,is,(A.take sz).map (List.take sz),cs,cvL (ent A) sz t,1,1,EE,GG^t*EE,rfl,hk.same (S09.trans S9f),S9f _ _ hI9,rI9.same S9f,(λf hf=>?_),by rw[Q1,Qi]; omega,by rw[Zia]; omega,hcl2,acl2,(λf hf x hx=>?_),(λx hx=>?_),∅,∅,∅,∅,∅,gg4 ⋯,λHg D zs Sg nD hD aD=>?_⟩
    · obtain ⟨g,hg,rfl⟩:=Ql.mp hf
      have:=wd g (Wl hg)
      rw[Qi,Zia]; omega
    · obtain ⟨g,hg,rfl⟩:=Ql.mp hf
      exact qA g (Wl hg) x (Wl hx)
    · obtain ⟨i,_,rfl⟩:=Ql.mp hx
      exact ZlX qe ⋯ t i
    rw[Zny wd ⋯ lA] at aD
    exact ⟨_,D,zs,_,rfl,S9f.trans Sg,Sg _ _ hf2,afl2.mono (λ_ _ n=>n.same Sg),hD,aD,λz=>by rw[z,hf2] at nD; cases nD⟩
  · rintro σ Hb ⟨z7,col,cs,ys,rfl,Sb,hfl,afl,-⟩
    exact ⟨_,rfl,k Hb fl ys (S09.trans Sb) hfl afl⟩
theorem sc_falling_numbers:FnScope ["kind", "table", "numbers", "size", "corner"] ["kind", "table"] (Zah Zby):=‹2›
theorem ZdT(h:Here K mg "falling_numbers" Zby) (T:Nm mg) (mn:ZcA P w K mg base CF CR) (h_corner_numbers:Has P w K mg base "corner_numbers" 5 ["kind", "table", "size"] (Zft CF CR)) (h_product_number:Has P w K mg base "product_number" 5 ["kind", "some", "others", "place"] (ZbB CF CR)):Has P w K mg base "falling_numbers" 6 ["kind", "table"] (Zek CF CR):=by
  refine h.has (λf fd F=>F.binds λ_ _ _ _ _ _ us hl=>by obtain ⟨_,_,rfl⟩:=ZdJ hl; exact rfl) λf fd F=>F.ok sc_falling_numbers (λvs H Q E h=>?_) (λcdv A outer s H vs Q E hr h=>?_)
  · obtain ⟨_,_,_,_,_,_,rfl,_⟩:=h
    rfl
  obtain ⟨κ,sk,tb,rs,A,n,rfl,hk,hT,rx,lA,wd,n5,qA,k⟩:=h
  have nd:=sc_falling_numbers.nd
  refine ⟨_,(Zab (Zaj (i:=2) nd rfl (Or.inr rfl) (ZaQ (Zaa (ZaS (pv 0) Zdl hr (Zaa Zad Zac)) Zac)))
    (Zab (ZaI PassesOwn.never rfl (Zay (by rfl) T.range (Zaa (Zak Zai (by rfl) T.len boot_len (Zaa (pv 1) Zac)) Zac)) (Zar (i:=3) nd rfl (Or.inl rfl)) (Zab (Zaj (i:=4) nd rfl (Or.inr rfl) (Zan h_corner_numbers hr (by rfl) (Zaa (pv 0) (Zaa (pv 1) (Zaa (pv 3) Zac)))))
      (Zae (Zaj (i:=2) nd rfl (Or.inr rfl) (ZaX ["place"] [(0, "kind"),(4, "corner"),(2, "numbers")] rfl (Zay (by rfl) T.range (Zaa (Zao Za0 (pv 3) Zad) Zac)) (by exact λ_ _ _ _=>(Zar (i:=0) (show (["place", "kind", "corner", "numbers"]:List Str).Nodup by decide +kernel) rfl (Or.inl rfl))) (by exact λ_ _ _ _=>(Zan h_product_number hr (by rfl) (Zaa (pv 1) (Zaa (pv 2) (Zaa (pv 3) (Zaa (pv 0) Zac)))))) ⟨⟨rfl,rfl,Or.inl rfl⟩,⟨⟨rfl,rfl,Or.inl rfl⟩,⟨⟨rfl,rfl,Or.inl rfl⟩,trivial⟩⟩⟩)))))
    (Zae (Zal (pv 2))))),?_⟩
  have lr:=rx.1
  have qe:=λi j=>Zez qA i j
  obtain ⟨C,dx,fs,ps,dvs,sp,c1,c2,c3,c4,rfl,c5⟩:=mn κ H sk hk
  refine ⟨_,rfl,sk,C,dx,fs,ps,_,sp,rfl,c1,c2,c3.mono ∅,c4,c5 H 1 1 _ _ (Same.refl _) ZeD λv1 H1 S1 n1=>?_⟩
  refine ⟨(by show 1<=sizeLine; decide),λnl nnl=>?_⟩
  have Sn:=Zag nnl (.lst [v1])
  have qn:=Zaf (H:=H1) (a:=nl) (o:=.lst [v1])
  have an:AllG (NR κ (upd H1 nl (.lst [v1]))) [v1] (coL (Rg.qz 0 (ent A)) (0+1)):=AllG.one (n1.same Sn)
  generalize upd H1 nl (.lst [v1])=H2 at *
  have S02:=S1.trans Sn
  refine ⟨_,rfl,tb,_,rfl,.inl (SqL.of (S02 _ _ hT)),(n:Int),?_,⋯,⋯,?_⟩
  · rw[Q1,lr,lA]
  rw[Q6]
  refine ZaG (lo:=0) (n:=n) (λt σ Hb=>∃(z3 z4:Option V) (nl:Addr) (ys:List V),σ=[some (.ref sk),some (.ref tb),some (.ref nl),z3,z4]/\Same H Hb/\Hb nl=some (.lst ys)/\AllG (NR κ Hb) ys (coL (Rg.qz t (ent A)) (t+1))) ⟨_,_,nl,_,rfl,S02,qn,an⟩ ?_ ?_
  · rintro t σ Hb ht ⟨z3,z4,nl,ys,rfl,Sb,hnl,anl⟩
    refine ⟨_,rfl,_,rfl,_,rfl,κ,sk,tb,rs,A,n,t,(by rw[Qc]; rfl),hk.same Sb,Sb _ _ hT,rx.same Sb,lA,wd,n5,ht,qA,λHc D zs Sc hD aD=>?_⟩
    have S0c:=Sb.trans Sc
    refine ⟨_,rfl,_,_,rfl,rfl,((t+2:Nat):Int),?_,⋯,⋯,?_⟩
    · rw[Qc]; rfl
    rw[Q6]
    have e1:∀x∈coL (Rg.cn (ent A) t) (t+2),QN κ 1 (GG^7) x:=λx hx=>by
      obtain ⟨i,hi,rfl⟩:=ZkR hx
      exact (ZoH qe ⋯ i).mono (Qd ∅ ⋯)
    have e2:∀x∈coL (Rg.qz t (ent A)) (t+1),QN κ 1 (8^t*GG^7) x:=λx hx=>by
      obtain ⟨i,hi,rfl⟩:=ZkR hx
      exact (Znx qe t ⋯ i).mono (W6 _ (Qd ∅ ⋯))
    refine Zbu (lo:=0) (n:=t+2) (λq ws H2=>Same Hc H2/\AllG (NR κ H2) ws (coL (Rg.qz (t+1) (ent A)) q)) ⋯ ⟨Same.refl _,.nil⟩ ?_ ?_
    · rintro q ws Hd hq _ ⟨Sd,aw⟩
      refine ⟨_,rfl,_,rfl,_,rfl,_,rfl,κ,sk,D,nl,zs,ys,_,_,q,GG^7,8^t*GG^7,(by rw[Qc]; rfl),hk.same (S0c.trans Sd),Sd _ _ hD,aD.mono (λ_ _ n=>n.same Sd),Sd _ _ (Sc _ _ hnl),anl.mono (λ_ _ n=>(n.same Sc).same Sd),by rw[Zbp]; omega,by rw[Zbp]; omega,by rw[Zbp]; omega,e1,e2,gg5 ∅,qz5 ⋯ ∅,λHe v Se nv=>⟨Sd.trans Se,?_⟩⟩
      rw[ZoG hq] at nv
      rw[ZgH]
      exact (aw.mono λ_ _ n=>n.same Se).append (.one nv)
    · rintro ws Hd _ ⟨Sd,aw⟩ nl2 nnl2
      have S2:=Zag nnl2 (.lst ws)
      exact ⟨_,_,nl2,ws,rfl,S0c.trans (Sd.trans S2),Zaf,aw.mono λ_ _ n=>n.same S2⟩
  · rintro σ Hb ⟨z3,z4,nl,ys,rfl,Sb,hnl,anl⟩
    exact ⟨_,rfl,k Hb nl ys Sb hnl anl⟩
end
end My
namespace My.Rg
open PySem L2 PyProof.Rows
section
variable{α:Type}[Lean.Grind.CommRing α]
theorem skS(j t:Nat):skip (j+1) (t+1)=skip j t+1:=by
  by_cases h:t<j
  · rw[Zfq h,Zfq ⋯]
  · rw[Zei ⋯,Zei ⋯]
theorem skZ(j:Nat):skip (j+1) 0=0:=Zfq ⋯
theorem ZkU:∀ {n:Nat} {a:Nat->Nat->α},det (n+1) a=Sg (λi=>sgn α i*a i 0*det n λt k=>a (skip i t) (k+1)) (n+1)
  | 0,a=>by
    show (0:α)+sgn α 0*a 0 0*1=0+sgn α 0*a 0 0*1
    rfl
  | n+1,a=>by
    show Sg (λj=>sgn α j*a 0 j*det (n+1) (λi k=>a (i+1) (skip j k))) (n+1+1)=_
    rw[ZcF,ZcF (λi=>sgn α i*a i 0*det (n+1) λt k=>a (skip i t) (k+1))]
    have z:det (n+1) (λi k=>a (i+1) (skip 0 k))=det (n+1) λt k=>a (skip 0 t) (k+1):=Za7 λi k _ _=>by rw[Zei (Qh k),Zei (Qh i)]
    rw[z]
    congr 1
    have l:∀j,sgn α (j+1)*a 0 (j+1)*det (n+1) (λi k=>a (i+1) (skip (j+1) k))=Sg (λi=>sgn α (j+1)*a 0 (j+1)*(sgn α i*a (i+1) 0*det n λt k=>a (skip i t+1) (skip j k+1))) (n+1):=λj=>by
      rw[<-Sg_mul,ZkU (n:=n) (a:=λi k=>a (i+1) (skip (j+1) k))]
      congr 1
      refine Sg_congr λi _=>?_
      rw[skZ]
      congr 1
      exact Za7 λt k _ _=>by rw[skS]
    have r:∀i,sgn α (i+1)*a (i+1) 0*det (n+1) (λt k=>a (skip (i+1) t) (k+1))=Sg (λj=>sgn α (i+1)*a (i+1) 0*(sgn α j*a 0 (j+1)*det n λt k=>a (skip i t+1) (skip j k+1))) (n+1):=λi=>by
      rw[<-Sg_mul]
      congr 1
      show Sg _ (n+1)=_
      refine Sg_congr λj _=>?_
      show sgn α j*a (skip (i+1) 0) (j+1)*det n (λt k=>a (skip (i+1) (t+1)) (skip j k+1))=_
      rw[skZ]
      congr 1
      exact Za7 λt k _ _=>by rw[skS]
    rw[Sg_congr (λj _=>l j),Sg_congr (λi _=>r i),Sg_comm]
    refine Sg_congr λi _=>Sg_congr λj _=>?_
    generalize (det n λt k=>a (skip i t+1) (skip j k+1))=x
    show (0-sgn α j)*a 0 (j+1)*(sgn α i*a (i+1) 0*x)=(0-sgn α i)*a (i+1) 0*(sgn α j*a 0 (j+1)*x)
    grind
theorem ZfW:∀ {n:Nat} {a:Nat->Nat->α},det n (λi j=>a j i)=det n a
  | 0,_=>rfl
  | n+1,a=>by
    rw[ZkU (a:=a)]
    show Sg (λj=>sgn α j*a j 0*det n (λi k=>a (skip j k) (i+1))) (n+1)=_
    exact Sg_congr λj _=>by rw[ZfW (n:=n) (a:=λi k=>a (skip j i) (k+1))]
end
end My.Rg
namespace My.Rg
open PySem L2 PyProof.Rows
section
variable{α:Type}[Lean.Grind.CommRing α]
def xa(a:Nat->Nat->α):Nat->Nat->Ps α:=λi j=>lin (0-a i j) (if i=j then 1 else 0)
def chi(n:Nat)(a:Nat->Nat->α):Ps α:=det n (xa a)
def dl(α:Type)[Lean.Grind.CommRing α](r k:Nat):α:=if r=k then 1 else 0
theorem ZkV:∀(n:Nat) (A B:Nat->Nat->α) (k:Nat),k<=n->(det n λi j=>lin (A i j) (B i j)).c k=(det n λi j=>lin (B i j) (A i j)).c (n-k)
  | 0,_,_,k,h=>by rw[show k=0 by omega]; rfl
  | n+1,A,B,k,h=>by
    have e:∀(A B:Nat->Nat->α) m,(det (n+1) λi j=>lin (A i j) (B i j)).c m=Sg (λj=>sgn α j*(A 0 j*(det n λi k=>lin (A (i+1) (skip j k)) (B (i+1) (skip j k))).c m+(if m=0 then 0 else B 0 j*(det n λi k=>lin (A (i+1) (skip j k)) (B (i+1) (skip j k))).c (m-1)))) (n+1):=λA B m=>by
      show (Sg (λj=>sgn (Ps α) j*lin (A 0 j) (B 0 j)*det n (λi k=>lin (A (i+1) (skip j k)) (B (i+1) (skip j k)))) (n+1)).c m=_
      rw[Ps.c_Sg]
      exact Sg_congr λj _=>term_c _ _ _ _ _
    rw[e,e]
    refine Sg_congr λj _=>?_
    have ih:=ZkV n (λi k=>A (i+1) (skip j k)) (λi k=>B (i+1) (skip j k))
    have dg:=λA B:Nat->Nat->α=>(Zfs n A B).1
    congr 1
    by_cases h0:k=0
    · subst h0
      rw[if_pos rfl,if_neg ⋯,dg _ _ (n+1-0) ⋯,show n+1-0-1=n-0 by omega,<-ih 0 ⋯]
      grind
    · rw[if_neg h0,ih (k-1) ⋯,show n-(k-1)=n+1-k by omega]
      by_cases h1:k=n+1
      · subst h1
        rw[dg _ _ (n+1) ⋯,Ud,if_pos rfl]
        grind
      · rw[if_neg ⋯,ih k ⋯,show n+1-k-1=n-k by omega]
        grind
theorem chi_qz{n:Nat}{a:Nat->Nat->α}{k:Nat}(h:k<=n):(chi n a).c k=(qz n a).c (n-k):=by
  unfold chi qz
  have e:=ZkV n (λi j=>0-a i j) (dl α) k h
  refine e.trans ?_
  congr 1
  refine Za7 λi j _ _=>?_
  show lin (dl α i j) (0-a i j)=lin (if j=i then 1 else 0) (0-a i j)
  congr 1
  unfold dl
  by_cases q:i=j
  · rw[if_pos q,if_pos q.symm]
  · rw[if_neg q,if_neg (λz=>q z.symm)]
theorem ZiN:∀n,det n (dl α)=1
  | 0=>rfl
  | n+1=>by
    show Sg (λj=>sgn α j*dl α 0 j*det n (λi k=>dl α (i+1) (skip j k))) (n+1)=1
    rw[ZcF]
    have e1:det n (λi k=>dl α (i+1) (skip 0 k))=1:=by
      rw[<-ZiN n]
      refine Za7 λi k _ _=>?_
      rw[Zei (Qh k)]
      unfold dl
      by_cases q:i=k
      · rw[if_pos q,if_pos ⋯]
      · rw[if_neg q,if_neg ⋯]
    have e2:Sg (λi=>sgn α (i+1)*dl α 0 (i+1)*det n (λi_1 k=>dl α (i_1+1) (skip (i+1) k))) n=Sg (λ_=>(0:α)) n:=Sg_congr λi _=>by
      rw[show dl α 0 (i+1)=0 from if_neg ⋯]
      grind
    rw[e1,e2,Sg_zero,show dl α 0 0=1 from if_pos rfl]
    show 1*1*1+0=(1:α)
    grind
theorem Znz(n:Nat)(a:Nat->Nat->α):(chi n a).c n=1:=by
  refine ((Zfs n _ _).2).trans ?_
  exact ZiN n
end
end My.Rg
namespace My.Rg
open PySem L2 PyProof.Rows
section
variable{α:Type}[Lean.Grind.CommRing α]
def gb(x v u:α)(gs:List α)(N:Nat->Nat->α):Nat->Nat->α:=λr k =>
  if r<gs.length+1 then
    if k<gs.length+1 then
      if r=0 then (if k=0 then v else 0)+(if k=gs.length then u else 0)
      else (if k+1=r then 0-1 else 0)+(if k=r then x else 0)+(if k=gs.length then gs.getD (r-1) 0 else 0)
    else 0
  else if k<gs.length+1 then 0 else N (r-(gs.length+1)) (k-(gs.length+1))
def hn(x v u:α):List α->α
  | []=>v+u
  | g::gs=>hn x (v*x) (u+v*g) gs
end
end My.Rg
namespace My.Rg
open PySem L2 PyProof.Rows
section
variable{α:Type}[Lean.Grind.CommRing α]
def pX(x:α):Nat->α
  | 0=>1
  | n+1=>pX x n*x
theorem ZmB(x:α)(m:Nat):∀n,pX x (m+n)=pX x m*pX x n
  | 0=>by show pX x m=pX x m*1; grind
  | n+1=>by
    show pX x (m+n)*x=pX x m*(pX x n*x)
    rw[ZmB x m n]; grind
def sub(x:α)(f:Ps α):Ps α:=⟨λk=>pX x k*f.c k⟩
theorem sub_mul(x:α)(f g:Ps α):sub x (f*g)=sub x f*sub x g:=Ps.ext λn=>by
  show pX x n*(f*g).c n=_
  rw[Ps.c_mul,Ps.c_mul,Sg_mul]
  refine Sg_congr λi hi=>?_
  show _=pX x i*f.c i*(pX x (n-i)*g.c (n-i))
  rw[show n=i+(n-i) by omega,ZmB,show i+(n-i)-i=n-i by omega]
  grind
theorem ZkW(x c:α):sub x (Ps.con c)=Ps.con c:=Ps.ext λn=>by
  show pX x n*(if n=0 then c else 0)=if n=0 then c else 0
  by_cases h:n=0
  · subst h; rw[if_pos rfl]; show 1*c=c; grind
  · rw[if_neg h]; grind
theorem ZoJ(x:α)(h:Nat->Ps α)(m:Nat):sub x (Sg h m)=Sg (λi=>sub x (h i)) m:=Ps.ext λn=>by
  show pX x n*(Sg h m).c n=_
  rw[Ps.c_Sg,Ps.c_Sg,Sg_mul]
  rfl
theorem ZkX(x:α):∀(n:Nat) (M:Nat->Nat->Ps α),det n (λi j=>sub x (M i j))=sub x (det n M)
  | 0,M=>(ZkW x 1).symm
  | n+1,M=>by
    show Sg (λj=>sgn (Ps α) j*sub x (M 0 j)*det n (λi k=>sub x (M (i+1) (skip j k)))) (n+1)=sub x (Sg (λj=>sgn (Ps α) j*M 0 j*det n (λi k=>M (i+1) (skip j k))) (n+1))
    rw[ZoJ]
    refine Sg_congr λj _=>?_
    rw[sub_mul,sub_mul,ZkX x n (λi k=>M (i+1) (skip j k)),Zh8,ZkW]
theorem qz_scl(x:α)(n:Nat)(a:Nat->Nat->α)(k:Nat):(qz n λi j=>x*a i j).c k=pX x k*(qz n a).c k:=by
  have e:(unz λi j=>x*a i j)=λi j=>sub x (unz a i j):=by
    funext i j
    refine Ps.ext λm=>?_
    show (if m=0 then (if j=i then (1:α) else 0) else if m=1 then 0-x*a i j else 0)=pX x m*(if m=0 then (if j=i then (1:α) else 0) else if m=1 then 0-a i j else 0)
    by_cases h:m=0
    · subst h
      rw[if_pos rfl,if_pos rfl]
      show _=1*_
      grind
    · rw[if_neg h,if_neg h]
      by_cases h1:m=1
      · subst h1
        rw[if_pos rfl,if_pos rfl]
        show _=1*x*_
        grind
      · rw[if_neg h1,if_neg h1]; grind
  unfold qz
  rw[e,ZkX]
  rfl
end
end My.Rg
namespace My
open PySem L2 PyProof.Rows
section
variable{κ:KX}
theorem QN.up{D E:Int}(hD:0<D)(hE:0<E){M e:Nat}{x:κ.F}(h:QN κ D M x)(bE:E.natAbs<=e):QN κ (D*E) (M*e) x:=by
  cases κ with
  | r p hp=>exact trivial
  | q =>
    obtain ⟨X,rfl,hX⟩:=h
    refine ⟨X*E,?_,by rw[Qt]; exact Qm hX bE⟩
    rw[Qx ⋯ (Ua (Qp hD hE)),Qr,Qo D E]
theorem QN.neg{D:Int}{M:Nat}{x:κ.F}(h:QN κ D M x):QN κ D M (0-x):=by
  cases κ with
  | r p hp=>exact trivial
  | q =>
    obtain ⟨X,rfl,hX⟩:=h
    refine ⟨-X,?_,⋯⟩
    have:(0-Rat.divInt X D:Rat) = -Rat.divInt X D:=by grind
    show (0-Rat.divInt X D:Rat)=_
    rw[this,Rat.neg_divInt]
theorem QN.sub{D:Int}(hD:0<D){M N:Nat}{x y:κ.F}(h:QN κ D M x)(g:QN κ D N y):QN κ D (M+N) (x-y):=by
  have e:x-y=x+(0-y):=by grind
  rw[e]
  exact QN.add hD h g.neg
theorem ZkY{E N:Nat}(hE:0<E)(hN:0<N){c:κ.F}(h:QN κ (E:Int) N c)(hc:c≠0):∃a:Nat,0<a/\a<=N/\QN κ (a:Int) E (Fd.inv c):=by
  cases κ with
  | r p hp=>exact ⟨1,∅,hN,trivial⟩
  | q =>
    obtain ⟨X,e,hX⟩:=h
    have X0:X≠0:=λz=>hc (by rw[e,z]; exact Rat.zero_divInt _)
    have m:Rat.divInt X E*Rat.divInt E X=(1:Rat):=by
      rw[Wo]
      have:X*(E:Int)≠0:=Int.mul_ne_zero X0 ⋯
      have e2:(1:Rat)=Rat.divInt 1 1:=rfl
      have e3:(E:Int)*X≠0:=Int.mul_ne_zero ⋯ X0
      rw[e2,Qx e3 ∅]
      rw[U8,Uy,Qo]
    have ei:Fd.inv c=Rat.divInt E X:=by
      have h1:(c:Rat)*Rat.divInt E X=1:=by rw[e]; exact m
      exact (ZeL (α:=Rat) h1).symm
    refine ⟨X.natAbs,⋯,hX,?_⟩
    show ∃Y:Int,(Fd.inv c:Rat)=Rat.divInt Y (X.natAbs:Int)/\Y.natAbs<=E
    rcases Int.lt_or_gt_of_ne X0 with s | s
    · refine ⟨-(E:Int),?_,⋯⟩
      have:((X.natAbs:Nat):Int) = -X:=by omega
      rw[ei,this,Qx X0 ⋯,Ww,Int.neg_mul]
    · refine ⟨(E:Int),?_,⋯⟩
      have:((X.natAbs:Nat):Int)=X:=by omega
      rw[ei,this]
noncomputable def gs(G:List κ.F)(p k:Nat):κ.F:=if p<=k then G.getD (k-p) 0 else 0
def Trm(F:List κ.F):Prop:=F.length=0\/F.getD (F.length-1) 0≠0
noncomputable def dI(G:List κ.F)(x:κ.F)(p a:Nat)(R:List κ.F):List κ.F:=(List.range R.length).map λk=>if p<=k/\k<p+a then R.getD k 0-x*G.getD (k-p) 0 else R.getD k 0
structure Dv (F G:List κ.F) (t:Nat) (qs R:List κ.F):Prop where
  lq:qs.length=t
  lr:R.length=F.length
  eq:∀k,F.getD k 0=pO (List.replicate (F.length+1-G.length-t) 0++qs.reverse) G (F.length+1-G.length) k+(if k<F.length-t then R.getD k 0 else 0)
  top:∀x,qs[0]?=some x->x=F.getD (F.length-1) 0*Fd.inv (G.getD (G.length-1) 0)
  fst:t=0->R=F
end
end My
namespace My
open PySem L2 PyProof.Rows
structure DvIn {κ:KX} (F G:List κ.F) (D E M N:Nat):Prop where
  lF:F.length<=100
  lG:G.length<=100
  tG:Trm G
  qF:∀x∈F,QN κ (D:Int) M x
  qG:∀x∈G,QN κ (E:Int) N x
  d0:0<D
  e0:0<E
  m0:0<M
  n0:0<N
  eN:E<=N
  bD:D*(N*E)^(F.length+1-G.length)<2^3000
  bM:M*(2*(E*N))^(F.length+1-G.length)<2^3000
  bE:E<2^3000
  bN:N<2^3000
structure DvOut {κ:KX} (F G:List κ.F) (D E M N a:Nat) (qs R:List κ.F) (r:Nat):Prop where
  dv:Dv F G (F.length+1-G.length) qs R
  lr:r<=(R.take (G.length-1)).length
  r0:∀j,r<=j->(R.take (G.length-1)).getD j 0=0
  r1:r=0\/(R.take (G.length-1)).getD (r-1) 0≠0
  a0:0<a
  aN:a<=N
  qq:∀x∈qs,QN κ ((D*(a*E)^(F.length+1-G.length):Nat):Int) (M*(2*(E*N))^(F.length+1-G.length)) x
  qR:∀x∈R,QN κ ((D*(a*E)^(F.length+1-G.length):Nat):Int) (M*(2*(E*N))^(F.length+1-G.length)) x
theorem ZkZ{κ:KX}{H:Hp}{xs:List V}{f:List κ.F}(h:AllG (NR κ H) xs f):AllG (NR κ H) xs.reverse f.reverse:=by
  obtain ⟨l,h⟩:=h
  refine ⟨by rw[Ue,Ue,l],λi v d hv hd=>?_⟩
  have hi:i<xs.length:=by
    have:=(Qk.mp hv).1
    rw[Ue] at this; exact this
  rw[Um hi] at hv
  rw[Um ⋯,<-l] at hd
  exact h _ v d hv hd
section
variable{κ:KX}
theorem QN.upN{D c:Nat}(hD:0<D)(hc:0<c){M:Nat}{x:κ.F}(h:QN κ (D:Int) M x):QN κ ((D*c:Nat):Int) (M*c) x:=by
  rw[We]
  exact QN.up ⋯ ⋯ h ⋯
theorem QN.mulN{D E M N:Nat}{x y:κ.F}(h:QN κ (D:Int) M x)(g:QN κ (E:Int) N y):QN κ ((D*E:Nat):Int) (M*N) (x*y):=by
  rw[We]
  exact QN.mul h g
end
end My
namespace L2
open PySem PySem.Spec PyProof.Rows
theorem ZnA{K:PySem.W.Frag}{a:Addr}{xs:List V}{g:TG}{tb:TS}{D:Ends}{σ:St}{H:Hp}(Pv:Nat->St->Hp->Prop)(h0:Pv 0 σ H)(hl:∀i σ H,i<=xs.length->Pv i σ H->SqL K H a xs)
    (hs:∀i x σ H,xs.reverse[i]?=some x->Pv i σ H->g x σ H λσ2 H2=>tb { D with nx:=Pv (i+1),ct:=Pv (i+1),bk:=D.nx } σ2 H2) (hd:∀σ H,Pv xs.length σ H->D.nx σ H) :
    ∃W:Nat->Nat->St->Hp->Prop,(∃m,W 0 m σ H)/\∀i m σ H,W i m σ H →
      ((Itv K a xs.length).stop i H/\D.nx σ H)\/((Itv K a xs.length).go i H/\∃N:St->Hp->Prop,(∀σ' H',N σ' H'->∃m',m'<m/\W (i+1) m' σ' H')/\∀x H',(Itv K a xs.length).yld i H x H'->g x σ H' λσ2 H2=>tb { D with nx:=N,ct:=N,bk:=D.nx } σ2 H2):=by
  refine ⟨λi m σ H=>m=xs.length-i/\i<=xs.length/\Pv i σ H,⟨_,rfl,Qh _,h0⟩,?_⟩
  rintro i m σ H ⟨rfl,hi,p⟩
  have q:=hl i σ H hi p
  by_cases h:i<xs.length
  · refine .inr ⟨⟨h,xs,q,rfl⟩,Pv (i+1),λσ' H' p'=>⟨xs.length-(i+1),⋯,rfl,h,p'⟩,λx H' y=>?_⟩
    obtain ⟨e1,e2⟩:=y
    subst e1
    exact hs i x σ _ (by rw[Um h]; exact e2 xs q) p
  · have e:i=xs.length:=by omega
    subst e
    exact .inl ⟨rfl,hd σ H p⟩
section
variable{X:Cx}
def ipM:TIp:=λx y H Q=>∃i j,x = .int i/\y = .int j/\IntMulOk i j/\Q (.int (i*j)) H
theorem ZnB:PIp X .Mult ipM:=by
  intro pins s σ H x y v u Q I r1 r2 h
  obtain ⟨i,j,e1,e2,hm,q⟩:=h
  subst e1; subst e2
  obtain ⟨t,rfl⟩:=r1
  obtain ⟨t',rfl⟩:=r2
  exact PyProof.Rows.imul_int ⟨.int _,H,I.tok _,⟨_,rfl⟩,q⟩ hm
end
end L2
namespace My
open PySem L2 PyProof.Rows
section
variable{κ:KX}
noncomputable def hv(F:List κ.F)(x:κ.F):Nat->κ.F
  | 0=>0
  | i+1=>hv F x i*x+F.reverse.getD i 0
noncomputable def tot(F:List κ.F)(R P:List (List κ.F))(u x:κ.F):Nat->List (List κ.F)
  | 0=>Zhm 0 (ZoC κ R.length)
  | i+1=>Zqz (mulT (tot F R P u x i) P R.length) (Zhm (F.reverse.getD i 0*(u*x^i)) (ZoC κ R.length))
theorem ZnC{x:κ.F}(hx:QN κ ((1:Nat):Int) 12 x):∀i,QN κ ((1:Nat):Int) (12^i) (x^i)
  | 0=>by
    have e:x^0=(1:κ.F):=by grind
    rw[e]; exact Zhl
  | i+1=>by
    have e:x^(i+1)=x^i*x:=by grind
    rw[e,Wc]
    exact QN.mulN (D:=1) (E:=1) (ZnC hx i) hx
end
end My
namespace My
open PySem L2 PyProof.Rows
theorem ZiO{κ:KX}:κ.mulF (K1 κ) (K1 κ)=K1 κ:=by show (1:κ.F)*1=1; grind
structure Wn (κ:KX) (A:Int) (x:κ.F) (B:Nat):Prop where
  n:NumV κ A x
  p:0<A
  l:A.natAbs<=B
  r:κ ≠ .q->A=1
theorem ZnD{κ:KX}:(1:κ.F)≠0:=λz=>Fd.zne z.symm
theorem Wn.ne{κ:KX}{A:Int}{x:κ.F}{B:Nat}(h:Wn κ A x B):x≠0:=λz=>by
  have h0:=h.p
  by_cases hq:κ = .q
  · subst hq
    have e1:Rat.num x=A:=h.n.1
    have z:x=(0:Rat):=z
    rw[z] at e1
    have:(0:Int)=A:=e1
    omega
  · have a:=h.r hq
    have n:=h.n
    rw[a] at n
    have e:=n.uniq ZeD
    rw[z] at e
    exact ZnD e.symm
theorem Wn.mul{κ:KX}{A C:Int}{x y:κ.F}{B E:Nat}(h:Wn κ A x B)(g:Wn κ C y E):Wn κ (A*C) (x*y) (B*E):=by
  refine ⟨?_,Qp h.p g.p,by rw[Qt]; exact Qm h.l g.l,λz=>by rw[h.r z,g.r z]; rfl⟩
  cases κ with
  | q =>
    have e1:Rat.num x=A:=h.n.1
    have e2:Rat.den x=1:=h.n.2
    have e3:Rat.num y=C:=g.n.1
    have e4:Rat.den y=1:=g.n.2
    have m:=ZhO (x:=x) (y:=y) (n:=A*C) (d:=1) ⟨∅,by rw[Int.gcd_one]⟩ (by rw[e1,e2,e3,e4]; simp)
    exact ⟨m.1,by have:=m.2; omega⟩
  | r p hp =>
    have a:=h.r (λz=>nomatch z)
    have b:=g.r (λz=>nomatch z)
    subst a b
    rw[h.n.uniq ZeD,g.n.uniq ZeD]
    show NumV _ (1*1) ((KX.r p hp).mulF (K1 _) (K1 _))
    rw[ZiO]
    exact ZeD
theorem wn1{κ:KX}:Wn κ 1 1 1:=⟨ZeD,∅,∅,λ_=>rfl⟩
theorem Wn.qn{κ:KX}{A:Int}{x:κ.F}{B:Nat}(h:Wn κ A x B):QN κ ((1:Nat):Int) B x:=(ZkK h.n).mono h.l
theorem ZoK{κ:KX}{D M:Nat}(hD:0<D)(lD:D<=10^60){f:List κ.F}{A:Int}(h:∀x∈f,QN κ (D:Int) M x)(b:Zmp κ f A){x:κ.F}(n:NumV κ A x):Wn κ A x D:=by
  obtain ⟨b0,b1⟩:=ZkJ hD h b
  refine ⟨n,b0,b1,λz=>?_⟩
  cases κ with
  | q=>exact absurd rfl z
  | r p hp=>exact b
theorem ZpU{κ:KX}(x:κ.F)(i:Nat):x^(i+1)=x^i*x:=by grind
theorem ZpV{κ:KX}(x:κ.F):x^0=1:=by grind
end My
namespace My
open PySem L2 PyProof.Rows
section
variable{κ:KX}
theorem ZmC(x:κ.F):∀i,Rg.pX x i=x^i
  | 0=>by rw[ZpV]; rfl
  | i+1=>by rw[ZpU,<-ZmC x i]; rfl
theorem ZnE(x:κ.F)(R:List (List κ.F)):ent (Zhm x R)=λi j=>x*ent R i j:=by
  funext i j
  unfold ent Zhm
  rw[Q3 (l:=List.map _ R),Qa,Q3 (l:=R)]
  cases h:R[i]? with
  | none =>
    show ([]:List κ.F).getD j 0=x*([]:List κ.F).getD j 0
    show (0:κ.F)=x*0
    grind
  | some f =>
    show (f.map (x * ·)).getD j 0=x*f.getD j 0
    exact Zgn f x j
theorem Zl0{R:List (List κ.F)}{D M:Nat}{A:Int}{x:κ.F}(hD:0<D)(q:AllR (QN κ (D:Int) M) R)(b:Zmp κ R.flatten A)(n:NumV κ A x):AllR (QN κ 1 M) (Zhm x R):=λf hf y hy=>by
  obtain ⟨f0,hf0,rfl⟩:=Ql.mp hf
  obtain ⟨y0,hy0,rfl⟩:=Ql.mp hy
  have qf:∀z∈R.flatten,QN κ (D:Int) M z:=λz hz=>by
    obtain ⟨f,hf,hz⟩:=List.mem_flatten.mp hz
    exact q f hf z hz
  have bl:=ZkJ hD qf b
  cases κ with
  | r p hp=>exact trivial
  | q =>
    obtain ⟨X,e,l⟩:=q f0 hf0 y0 hy0
    obtain ⟨c,hc⟩:=b.2.1 y0 (List.mem_flatten.mpr ⟨f0,hf0,hy0⟩)
    have hx:x=((A:Int):Rat):=Rat.ext n.1 n.2
    have d0:(0:Int)<(Rat.den y0:Int):=by have:=Rat.den_pos y0; omega
    have x1:x=Rat.divInt A 1:=by rw[<-Qv x,n.1,n.2]; rfl
    have D0:(D:Int)≠0:=by omega
    have ey:x*y0=Rat.divInt (Rat.num y0*c) 1:=by
      have e1:x*y0=Rat.divInt (A*Rat.num y0) (1*(Rat.den y0:Int)):=by
        rw[<-Wo,<-x1,Qv]
      rw[e1,Qx ⋯ ∅,hc]
      generalize Rat.num y0=u
      generalize ((Rat.den y0:Nat):Int)=v
      grind
    refine ⟨Rat.num y0*c,ey,?_⟩
    have e2:x*y0=Rat.divInt (A*X) (1*(D:Int)):=by
      rw[<-Wo,<-x1,<-e]
    rw[e2,Qx ⋯ ∅] at ey
    have ez:A*X=Rat.num y0*c*D:=by
      have:A*X*1=Rat.num y0*c*(1*(D:Int)):=ey
      generalize Rat.num y0*c=u at *
      grind
    have ea:A.natAbs*X.natAbs=(Rat.num y0*c).natAbs*D:=by
      have:=congrArg Int.natAbs ez
      rw[Qt,Qt (Rat.num y0*c)] at this
      rw[this,Qy]
    refine Nat.le_of_mul_le_mul_right (c:=D) ?_ hD
    rw[<-ea,W7 M D]
    exact Qm bl.2 l
theorem ZpA{A:Int}{x:κ.F}{B:Nat}(h:Wn κ A x B):∀i,Wn κ (A^i) (x^i) (B^i)
  | 0=>by rw[ZpV,Int.pow_zero,Nat.pow_zero]; exact wn1
  | i+1=>by
    rw[ZpU,Int.pow_succ,Wc]
    exact (ZpA h i).mul h
theorem ZoL{b:Int}{y:κ.F}{B:Nat}(h:Wn κ b y B)(l:B<=10^500):B1 κ (Fd.inv y):=by
  obtain ⟨a,a0,al,q⟩:=ZkY (E:=1) (N:=B+1) ∅ ⋯ (h.qn.mono ⋯) h.ne
  have z:B+1<2^3000:=Qs (Nat.add_le_add_right l 1) ∅
  exact q.b1 ⋯ (by rw[Qy]; exact Qs al z) ∅
theorem Zk0(m:Nat)(a:Nat->Nat->κ.F):(coL (Rg.qz m a) (m+1)).reverse=coL (Rg.chi m a) (m+1):=by
  refine List.ext_getElem? λi=>?_
  by_cases h:i<m+1
  · rw[Um (by rw[Zbp]; exact h),Zbp]
    have g:∀(f:Rg.Ps κ.F) j,j<m+1->(coL f (m+1))[j]?=some (f.c j):=λf j hj=>by
      unfold coL
      rw[Qa,Wq hj]
      rfl
    rw[g _ _ ⋯,g _ _ h,Rg.chi_qz ⋯,show m+1-1-i=m-i by omega]
  · rw[U4 (by rw[Ue,Zbp]; omega),U4 (by rw[Zbp]; omega)]
def GrS(κ:KX)(A:List (List κ.F)):Prop:=∃D M:Nat,0<D/\D<=10^42/\M<=10^45/\AllR (QN κ (D:Int) M) A
end
def ZiP(P:Program)(w:World)(K:PySem.W.Frag)(mg:Str->Option Value)(base:Heap)(CF CR:Addr):Prop :=
  ∀(κ:KX) (H:Hp) (s:Addr),KdX CF CR κ H s->∃C dx fs ps dvs sp,H s=some (.ins C dx fs)/\Cls K C/\HasMX P w K mg base C "number" 3 ps dvs sp/\fs.lookup ("number" : Str)=none/\dvs=[] ∧
    ∀(H':Hp) (b:Int) (y:κ.F) (Q:VK) (E:XK),Same H H'->NumV κ b y->0<b->b.natAbs<=10^1000->(κ ≠ .q->b=1)->(∀v H'',Same H' H''->NR κ H'' v (Fd.inv y)->Q v H'')->sp [.ref s,.int 1,.int b] H' Q E
inductive ZgI (CF CR cF:Addr) (vs:List V) (H:Hp) (Q:VK) (E:XK):Prop
  | mk (κ:KX) (s tb:Addr) (rs:List Addr) (A:List (List κ.F)) (m:Nat) (_:vs=[.ref s,.ref tb]) (_:KdX CF CR κ H s) (_:TabL κ H tb rs A m) (_:(A.length≠m->E (.ref cF) none H)) (_:(A.length=m->m<=7/\GrS κ A/\∀(H':Hp) (D:Addr) (ys:List V),Same H H'->H D=none->H' D=some (.lst ys)->AllG (NR κ H') ys (coL (Rg.chi m (ent A)) (m+1))->Q (.ref D) H')):ZgI CF CR cF vs H Q E
end My
namespace My
open PySem L2 PyProof.Rows
section
variable{P:Program}{w:World}{K:PySem.W.Frag}{mg:Str->Option Value}{base:Heap}{CF CR cF cN:Addr}
theorem sc_great:FnScope ["kind", "A", "part", "numbers", "bottom", "each"] ["kind", "A"] (Zah ZhI):=‹2›
theorem Zl1(h:Here K mg "great" ZhI) (T:Nm mg) (Tv:mg "reversed" = none) (mc:ZiP P w K mg base CF CR) (mt:Zks P w K mg base CF CR "times" (λ_ x y=>x*y)) (h_need_square:HasX P w K mg base "need_square" 6 ["table"] (Zbo cF)) (h_evenly_freed:Has P w K mg base "evenly_freed" 6 ["kind", "table"] (ZbK CF CR)) (h_falling_numbers:Has P w K mg base "falling_numbers" 6 ["kind", "table"] (Zek CF CR)):HasX P w K mg base "great" 7 ["kind", "A"] (ZgI CF CR cF):=by
  refine h.hasX (λf fd F=>F.binds λ_ _ _ _ _ _ us hl=>by obtain ⟨_,_,rfl⟩:=ZdJ hl; exact rfl) λf fd F=>F.okx sc_great (λvs H Q E h=>?_) (λcdv A outer s H vs Q E hr h=>?_)
  · obtain ⟨_,_,_,_,_,_,rfl,_⟩:=h
    rfl
  obtain ⟨κ,sk,tb,rs,A,m,rfl,hk,ta,kF,kS⟩:=h
  have nd:=sc_great.nd
  refine ⟨_,(Zab (ZaE (ZcN h_need_square ZhE hr (by rfl) (Zaa (pv 1) Zac)))
    (Zab (Zaj (i:=2) nd rfl (Or.inl rfl) (Zan h_evenly_freed hr (by rfl) (Zaa (pv 0) (Zaa (pv 1) Zac))))
    (Zab (Zaj (i:=3) nd rfl (Or.inl rfl) (ZaQ Zac))
    (Zab (Zaj (i:=4) nd rfl (Or.inl rfl) Zad)
    (Zab (ZaI PassesOwn.leaving rfl (ZaC (Zan h_falling_numbers hr (by rfl) (Zaa (pv 0) (Zaa (Zam Zaq (pv 2) Zad (λ_ _=>rfl)) Zac)))) (Zar (i:=5) nd rfl (Or.inl rfl)) (Zab (ZaE (ZeC PySem.F.plainAttrs_list PySem.F.slot_list_append PySem.F.type_list_append Za3 (pv 3) (Zaa (ZaZ (pv 0) hr (Zaa (pv 5) (Zaa (ZaS (pv 0) Zdl hr (Zaa Zad (Zaa (pv 4) Zac))) Zac))) Zac)))
      (Zae (ZjG (i:=4) nd rfl (Or.inl rfl) (Zam Zaq (pv 2) Zad (λ_ _=>rfl)) ZnB))))
    (Zae (Zal (Zjq (by rfl) T.list (by rfl) Tv rfl (Zaa (pv 3) Zac))))))))),?_⟩
  refine ⟨_,rfl,κ,tb,rs,A,m,rfl,ta,(λsq=>?_),kF⟩
  obtain ⟨m7,⟨D,M,D0,lD,lM,qA⟩,k⟩:=kS sq
  have lr:=ta.r.1
  have n1:=ta.n1
  refine ⟨_,rfl,_,rfl,κ,sk,tb,rs,A,m,D,M,rfl,hk,ta,qA,D0,Q0 lD ∅,Q0 lM ∅,λH1 tp D' rs' bA x S1 htp bv nx tF=>?_⟩
  have qFl:∀y∈A.flatten,QN κ (D:Int) M y:=λy hy=>by
    obtain ⟨f,hf,hy⟩:=List.mem_flatten.mp hy
    exact qA f hf y hy
  have wx:Wn κ bA x D:=ZoK D0 (Q0 lD ∅) qFl bv nx
  have qF:AllR (QN κ 1 EE) (Zhm x A):=λf hf y hy=>(Zl0 D0 qA bv nx f hf y hy).mono (Q0 lM ∅)
  refine ⟨∅,λna nna=>?_⟩
  have Sn:=Zag nna (.lst [])
  have qn:=Zaf (H:=H1) (a:=na) (o:=.lst [])
  generalize upd H1 na (.lst [])=H2 at *
  have S02:=S1.trans Sn
  refine ⟨_,rfl,_,rfl,tp,_,0,_,rfl,rfl,SqT.of (Sn _ _ htp),rfl,κ,sk,D',rs',Zhm x A,m,rfl,hk.same S02,Sn _ _ tF.l,tF.r.same Sn,by rw[ZgD]; exact sq,tF.w,m7,qF,λH3 L zs S3 hL aL=>?_⟩
  have lz:zs.length=m+1:=by rw[aL.1,Zbp]
  have S13:=Sn.trans S3
  have S03:=S1.trans S13
  refine ⟨L,rfl,⟨_,SqL.of hL⟩,?_⟩
  have nL:L≠na:=λz=>by
    rw[z,S3 _ _ qn] at hL
    have:[]=zs:=by injection (Option.some.inj hL)
    rw[<-this] at lz
    exact absurd lz (by show ¬0=m+1; omega)
  have eF:ent (Zhm x A)=λi j=>x*ent A i j:=ZnE x A
  have en:∀i,(Rg.qz m (ent (Zhm x A))).c i*Fd.inv (x^i)=(Rg.qz m (ent A)).c i:=λi=>by
    rw[eF,Rg.qz_scl,ZmC]
    have mi:=Fd.mul_inv (x^i) (ZpA wx i).ne
    generalize Fd.inv (x^i)=q at *
    generalize (Rg.qz m (ent A)).c i=d at *
    generalize x^i=y at *
    grind
  have bi:∀i,i<=8->D^i<=10^500:=λi hi=>Q0 (Nat.pow_le_pow_left lD i) (Q0 (Qd ∅ hi) ∅)
  refine Za8 (K:=K) (a:=L) (xs:=zs) (λi σ H4=>∃(z5:Option V) (ys:List V),σ=[some (.ref sk),some (.ref tb),some (.ref tp),some (.ref na),some (.int (bA^i)),z5]/\Off [na] H3 H4/\H4 na=some (.lst ys)/\AllG (NR κ H4) ys (coL (Rg.qz m (ent A)) i)) ⟨_,[],by rw[Int.pow_zero]; rfl,λ_ _ _ q=>q,S3 _ _ qn,.nil⟩ ?_ ?_ ?_
  · rintro i σ H4-⟨z5,ys,rfl,O4,-⟩
    exact SqL.of (O4 _ _ (λz=>nL (Q5.mp z)) hL)
  · rintro i v σ H4 hx ⟨z5,ys,rfl,O4,hna,ays⟩
    have hi:i<m+1:=by have:=(Qk.mp hx).1; omega
    obtain ⟨v',hv',nv⟩:=Zdw aL (i:=i) (by rw[Zbp]; omega)
    rw[hx] at hv'
    obtain rfl:=Option.some.inj hv'
    rw[ZeM _ ⋯] at nv
    have S14:Same H1 H4:=Off.same O4 S13 (λz hz=>by rw[Q5.mp hz]; exact nna)
    have S04:=S1.trans S14
    have nv4:=nv.off (S3 _ _ qn) O4
    have wi:=ZpA wx i
    have ly:ys.length=i:=by rw[ays.1,Zbp]
    obtain ⟨Ct,dxt,fst,pst,dvt,spt,t1,t2,t3,t4,rfl,t5⟩:=mt κ H4 sk (hk.same S04)
    obtain ⟨Cn,dxn,fsn,psn,dvn,spn,e1,e2,e3,e4,rfl,e5⟩:=mc κ H4 sk (hk.same S04)
    refine ⟨_,rfl,.inl ⟨rfl,_,SqL.of hna⟩,_,rfl,sk,Ct,dxt,fst,pst,_,spt,rfl,t1,t2,t3.mono ∅,t4,_,rfl,_,rfl,sk,Cn,dxn,fsn,psn,_,spn,rfl,e1,e2,e3.mono ∅,e4,_,rfl,e5 H4 (bA^i) (x^i) _ _ (Same.refl _) wi.n wi.p (Q0 wi.l (Q0 (bi i ⋯) ∅)) wi.r λv4 H5 S5 n4=>?_⟩
    have bx:B1 κ ((Rg.qz m (ent (Zhm x A))).c i):=Zhp (Znx (λi j=>Zez qF i j) m m7 i) (qz5 m7 ⋯)
    refine t5 H5 v v4 _ _ _ S5 (nv4.same S5) n4 bx (ZoL wi (bi i ⋯)) λv6 H6 S6 n6=>?_
    have n6:NR κ H6 v6 ((Rg.qz m (ent (Zhm x A))).c i*Fd.inv (x^i)):=n6
    rw[en] at n6
    have S46:=S5.trans S6
    have hn6:=S46 _ _ hna
    refine ⟨na,_,_,rfl,rfl,hn6,Q7 (show ys.length<1000 by omega) ∅,?_⟩
    have Of:Off [na] H6 (upd H6 na (.lst (ys++[v6]))):=ZaH (Same.refl H6)
    have ay2:AllG (NR κ (upd H6 na (.lst (ys++[v6])))) (ys++[v6]) (coL (Rg.qz m (ent A)) (i+1)):=by
      rw[ZgH]
      exact (ays.mono λ_ _ n=>(n.same S46).off hn6 Of).append (.one (n6.off hn6 Of))
    have O7:Off [na] H3 (upd H6 na (.lst (ys++[v6]))):=λb o hb q=>Of b o hb (S46 _ _ (O4 b o hb q))
    have htp7:upd H6 na (.lst (ys++[v6])) tp=some (.tup [.ref D',.int bA]):=by
      rw[Zav (λz=>by rw[z,nna] at htp; cases htp)]
      exact S46 _ _ (S14 _ _ htp)
    have hn7:=Zaf (H:=H6) (a:=na) (o:=.lst (ys++[v6]))
    generalize upd H6 na (.lst (ys++[v6]))=H7 at *
    refine ⟨_,rfl,_,rfl,tp,_,1,_,rfl,rfl,SqT.of htp7,rfl,_,_,rfl,rfl,ZpR (Q0 wi.l (Q0 (bi i ⋯) ∅)) (Q0 wx.l (Q0 lD ∅)),?_⟩
    exact ⟨some v,_,by rw[Int.pow_succ]; rfl,O7,hn7,ay2⟩
  · rintro σ H4 ⟨z5,ys,rfl,O4,hna,ays⟩
    rw[lz] at ays
    have S14:Same H1 H4:=Off.same O4 S13 (λz hz=>by rw[Q5.mp hz]; exact nna)
    refine ⟨_,rfl,na,_,rfl,SqL.of hna,λp np=>?_⟩
    have Sp:=Zag np (.lst ys.reverse)
    refine k _ p ys.reverse ((S1.trans S14).trans Sp) ?_ Zaf ?_
    · cases e:H p with
      | none=>rfl
      | some o=>rw[(S1.trans S14) _ _ e] at np; cases np
    · have:=ZkZ (ays.mono λ_ _ n=>n.same Sp)
      rw[Zk0] at this
      exact this
end
end My
namespace My.Rg
section
variable{α:Type}[Lean.Grind.CommRing α]
def im(a:Nat->Nat->α)(m:Nat)(v:Nat->α):Nat->Nat->α
  | 0=>v
  | k+1=>λi=>Sg (λj=>a i j*im a m v k j) m
def Vz(a:Nat->Nat->α)(m:Nat)(v:Nat->α)(i:Nat):Ps α:=⟨λk=>im a m v k i⟩
theorem ZoM(a:Nat->Nat->α){m:Nat}(v:Nat->α){i:Nat}(hi:i<m):Sg (λj=>Vz a m v j*unz a i j) m=Ps.con (v i):=Ps.ext λn=>by
  rw[Ps.c_Sg]
  have e:∀j,(Vz a m v j*unz a i j).c n=im a m v n j*(if i=j then 1 else 0)+(if n=0 then 0 else im a m v (n-1) j*(0-a i j)):=λj=>by
    unfold unz
    rw[ZgG]
    show im a m v n j*(if j=i then 1 else 0)+_=_
    by_cases q:i=j
    · rw[if_pos q,if_pos q.symm]; rfl
    · rw[if_neg q,if_neg (λz=>q z.symm)]; rfl
  rw[Sg_congr λj _=>e j,<-Sg_add,Sg_one,if_pos hi]
  cases n with
  | zero =>
    rw[Sg_congr (g:=λ_=>(0:α)) λj _=>by rw[if_pos rfl],Sg_zero]
    show v i+0=if 0=0 then v i else 0
    rw[if_pos rfl]; grind
  | succ n =>
    rw[Sg_congr (g:=λj=>(0-1)*(a i j*im a m v n j)) λj _=>by rw[if_neg ⋯]; show im a m v n j*(0-a i j)=_; grind,<-Sg_mul]
    show Sg (λj=>a i j*im a m v n j) m+_=if n+1=0 then v i else 0
    rw[if_neg ⋯]; grind
theorem ZiQ{m:Nat}{B:Nat->Nat->α}{V:Nat->α}{r:Nat}(hr:r<m):∀k,k<=m->det m (Zbg B r λj=>Sg (λi=>V i*B i j) k)=if r<k then V r*det m B else 0
  | 0,_=>by
    rw[if_neg ⋯]
    have:=ZiI (a:=B) (r:=r) 0 hr
    have e:(λj=>(0:α)*B r j)=λj=>Sg (λi=>V i*B i j) 0:=by
      funext j; show (0:α)*B r j=0; grind
    rw[e] at this
    rw[this]; grind
  | k+1,hk=>by
    have l:=Zeh (a:=B) (r:=r) (λj=>Sg (λi=>V i*B i j) k) (B k) (V k) hr
    have e:det m (Zbg B r λj=>Sg (λi=>V i*B i j) (k+1))=det m (Zbg B r λj=>Sg (λi=>V i*B i j) k+V k*B k j):=rfl
    rw[e,l,ZiQ hr k ⋯]
    by_cases q:r=k
    · rw[if_neg ⋯,if_pos ⋯,<-q,Zci]; grind
    · have z:det m (Zbg B r (B k))=0:=by
        refine ZiH hr (show k<m by omega) q λj=>?_
        unfold Zbg
        rw[if_pos rfl,if_neg (λz=>q z.symm)]
      rw[z]
      by_cases q2:r<k
      · rw[if_pos q2,if_pos ⋯]; grind
      · rw[if_neg q2,if_neg ⋯]; grind
theorem Zju(x:α):Ps.con x=lin x 0:=Ps.ext λn=>by
  show (if n=0 then x else 0)=if n=0 then x else if n=1 then 0 else 0
  split
  · rfl
  · split <;> rfl
theorem ZoN{a:Nat->Nat->α}{m:Nat}{v:Nat->α}{r:Nat}(hr:r<m){n:Nat}(hn:m<=n):(Vz a m v r*qz m a).c n=0:=by
  have c:=ZiQ (B:=λi j=>unz a j i) (V:=Vz a m v) hr m (Q4 _)
  rw[if_pos hr,show det m (λi j=>unz a j i)=det m (unz a) from ZfW] at c
  have e:det m (Zbg (λi j=>unz a j i) r λj=>Sg (λi=>Vz a m v i*unz a j i) m)=det m (λi j=>lin (if i=r then v j else if i=j then 1 else 0) (if i=r then 0 else 0-a j i)):=Za7 λi j hi hj=>by
    unfold Zbg
    by_cases q:i=r
    · rw[if_pos q,if_pos q,if_pos q]
      show Sg (λi=>Vz a m v i*unz a j i) m=_
      rw[ZoM a v hj,Zju]
    · rw[if_neg q,if_neg q,if_neg q]; rfl
  rw[e] at c
  show (Vz a m v r*det m (unz a)).c n=0
  rw[<-c]
  have d:=Zfs m (λi j=>if i=r then v j else if i=j then 1 else 0) (λi j=>if i=r then 0 else 0-a j i)
  by_cases q:m<n
  · exact d.1 n q
  · have:n=m:=by omega
    rw[this,d.2]
    have s:=ZiI (a:=λi j=>if i=r then (0:α) else 0-a j i) (r:=r) 0 hr
    have e2:Zbg (λi j=>if i=r then (0:α) else 0-a j i) r (λj=>(0:α)*if r=r then (0:α) else 0-a j r)=λi j=>if i=r then (0:α) else 0-a j i:=by
      funext i j
      unfold Zbg
      by_cases q:i=r
      · rw[if_pos q,if_pos q]; grind
      · rw[if_neg q]
    rw[e2] at s
    rw[s]; grind
theorem qz_c0(m:Nat)(a:Nat->Nat->α):(qz m a).c 0=1:=by
  have:=chi_qz (n:=m) (a:=a) (k:=m) (Q4 _)
  rw[Znz,Ud] at this
  exact this.symm
theorem ZnF{S q:Ps α}(h0:q.c 0=1)(h:∀n,(S*q).c n=0):∀n,S.c n=0:=λn=>by
  induction n using Nat.strongRecOn with
  | ind n ih =>
    have e:=h n
    rw[Ps.c_mul] at e
    have e:Sg (λi=>S.c i*q.c (n-i)) n+S.c n*q.c (n-n)=0:=e
    rw[Sg_congr (g:=λ_=>(0:α)) λi hi=>by rw[ih i hi]; grind,Sg_zero,Ud,h0] at e
    grind
theorem ZmD{S q:Ps α}{m:Nat}(h:∀n,n<m->S.c n=0):∀n,n<m->(S*q).c n=0:=λn hn=>by
  rw[Ps.c_mul,Sg_congr (g:=λ_=>(0:α)) λi hi=>by rw[h i ⋯]; grind,Sg_zero]
def pS(a:Nat->Nat->α)(m:Nat)(v u:Nat->α):Ps α:=Sg (λr=>Ps.con (u r)*Vz a m v r) m
theorem ZpB(a:Nat->Nat->α)(m:Nat)(v u:Nat->α)(k:Nat):(pS a m v u).c k=Sg (λr=>im a m v k r*u r) m:=by
  unfold pS
  rw[Ps.c_Sg]
  refine Sg_congr λr _=>?_
  rw[show (Ps.con (u r)*Vz a m v r).c k=u r*(Vz a m v r).c k from Ps.con_mul _ _ _]
  show u r*im a m v k r=_
  grind
theorem ZpC(a:Nat->Nat->α)(m:Nat)(v u:Nat->α)(t:Nat):(pS a m v u*qz m a).c t=Sg (λr=>(Vz a m v r*qz m a).c t*u r) m:=by
  have e:pS a m v u*qz m a=Sg (λr=>Ps.con (u r)*(Vz a m v r*qz m a)) m:=by
    unfold pS
    have:∀(f:Nat->Ps α) (q:Ps α) (n:Nat),Sg f n*q=Sg (λr=>f r*q) n:=λf q n=>by
      have:=Sg_mul q f n
      rw[show Sg f n*q=q*Sg f n by grind,this]
      exact Sg_congr λi _=>by grind
    rw[this]
    exact Sg_congr λr _=>by grind
  rw[e,Ps.c_Sg]
  refine Sg_congr λr _=>?_
  rw[show (Ps.con (u r)*(Vz a m v r*qz m a)).c t=u r*(Vz a m v r*qz m a).c t from Ps.con_mul _ _ _]
  grind
def Nl(a:Nat->Nat->α)(m:Nat)(v u:Nat->α):Prop:=∀k,Sg (λr=>im a m v k r*u r) m=0
theorem ZpW{a:Nat->Nat->α}{m:Nat}{v u:Nat->α}(h:∀t,t<m->(pS a m v u*qz m a).c t=0):Nl a m v u:=λk=>by
  rw[<-ZpB]
  refine ZnF (qz_c0 m a) (λn=>?_) k
  by_cases q:n<m
  · exact h n q
  · rw[ZpC,Sg_congr (g:=λ_=>(0:α)) λr hr=>by rw[ZoN hr ⋯]; grind,Sg_zero]
theorem nl_low{a:Nat->Nat->α}{m:Nat}{v u:Nat->α}(h:∀k,k<m->Sg (λr=>im a m v k r*u r) m=0):Nl a m v u :=
  ZpW λt ht=>ZmD (m:=m) (λn hn=>by rw[ZpB]; exact h n hn) t ht
theorem nl_climb{a:Nat->Nat->α}{m:Nat}{v u:Nat->α}:(∀t,t<m->Sg (λr=>(Vz a m v r*qz m a).c t*u r) m=0)↔Nl a m v u:=by
  constructor
  · intro h
    exact ZpW λt ht=>by rw[ZpC]; exact h t ht
  · intro h t ht
    rw[<-ZpC]
    exact ZmD (m:=m) (λn _=>by rw[ZpB]; exact h n) t ht
theorem nl_img{a:Nat->Nat->α}{m:Nat}{v u:Nat->α}(h:Nl a m v u):Nl a m v (λj=>Sg (λi=>a i j*u i) m):=λk=>by
  have e:=h (k+1)
  have:Sg (λr=>im a m v k r*Sg (λi=>a i r*u i) m) m=Sg (λi=>im a m v (k+1) i*u i) m:=by
    have e1:∀r,im a m v k r*Sg (λi=>a i r*u i) m=Sg (λi=>im a m v k r*(a i r*u i)) m:=λr=>Sg_mul _ _ _
    rw[Sg_congr λr _=>e1 r,Sg_comm]
    refine Sg_congr λi _=>?_
    show _=Sg (λj=>a i j*im a m v k j) m*u i
    have:=Sg_mul (u i) (λj=>a i j*im a m v k j) m
    rw[show Sg (λj=>a i j*im a m v k j) m*u i=u i*Sg (λj=>a i j*im a m v k j) m by grind,this]
    exact Sg_congr λj _=>by grind
  rw[this]; exact e
theorem climb0(a:Nat->Nat->α)(m:Nat)(v:Nat->α)(r:Nat):(Vz a m v r*qz m a).c 0=v r:=by
  rw[Ps.c_mul]
  show 0+im a m v 0 r*(qz m a).c (0-0)=v r
  rw[Ud,qz_c0]
  show 0+v r*1=v r
  grind
theorem climbS(a:Nat->Nat->α)(m:Nat)(v:Nat->α)(r t:Nat):(Vz a m v r*qz m a).c (t+1)=Sg (λj=>a r j*(Vz a m v j*qz m a).c t) m+(qz m a).c (t+1)*v r:=by
  rw[Ps.c_mul,ZcF]
  have e:Sg (λi=>(Vz a m v r).c (i+1)*(qz m a).c (t+1-(i+1))) (t+1)=Sg (λj=>a r j*(Vz a m v j*qz m a).c t) m:=by
    have e1:∀i,(Vz a m v r).c (i+1)*(qz m a).c (t+1-(i+1))=Sg (λj=>a r j*im a m v i j*(qz m a).c (t-i)) m:=λi=>by
      rw[show t+1-(i+1)=t-i by omega]
      show Sg (λj=>a r j*im a m v i j) m*(qz m a).c (t-i)=_
      have:=Sg_mul ((qz m a).c (t-i)) (λj=>a r j*im a m v i j) m
      rw[show Sg (λj=>a r j*im a m v i j) m*(qz m a).c (t-i)=(qz m a).c (t-i)*Sg (λj=>a r j*im a m v i j) m by grind,this]
      exact Sg_congr λj _=>by grind
    rw[Sg_congr λi _=>e1 i,Sg_comm]
    refine Sg_congr λj _=>?_
    rw[Ps.c_mul,Sg_mul]
    exact Sg_congr λi _=>by show a r j*im a m v i j*_=a r j*(im a m v i j*_); grind
  rw[e,Nat.sub_zero]
  show v r*(qz m a).c (t+1)+_=_
  grind
end
end My.Rg
namespace My
open PySem L2 PyProof.Rows
section
variable{κ:KX}
theorem ZcG(f u:Nat->κ.F):∀m,Zb3 f u m=Rg.Sg (λj=>f j*u j) m
  | 0=>rfl
  | m+1=>by show Zb3 f u m+f m*u m=_; rw[ZcG f u m]; rfl
theorem ZfX{f g u:Nat->κ.F}{m:Nat}(h:∀j,j<m->f j=g j):Zb3 f u m=Zb3 g u m:=by
  rw[ZcG,ZcG]
  exact Rg.Sg_congr λj hj=>by rw[h j hj]
theorem ZgJ(g:Nat->κ.F)(m:Nat):((List.range m).map g).length=m:=by rw[Q1,Wd]
theorem ZbL(g:Nat->κ.F){m j:Nat}(h:j<m):((List.range m).map g).getD j 0=g j:=by
  rw[Q3,Qa,Wq h]; rfl
theorem Zb4{f g:List κ.F}(l:f.length=g.length)(h:∀j,j<f.length->f.getD j 0=g.getD j 0):f=g:=by
  refine List.ext_getElem l λj a b=>?_
  have:=h j a
  rw[Q3,Q3,Q2 a,Q2 b] at this
  exact this
noncomputable abbrev vF(v:List κ.F):Nat->κ.F:=λi=>v.getD i 0
noncomputable def Zib(R:List (List κ.F))(c:List κ.F):List κ.F:=R.map λr=>Zgy r c c.length
noncomputable def imL(A:List (List κ.F))(m:Nat)(v:List κ.F)(k:Nat):List κ.F:=(List.range m).map (Rg.im (ent A) m (vF v) k)
noncomputable def wL(A:List (List κ.F))(m:Nat)(v:List κ.F)(t:Nat):List κ.F:=(List.range m).map λr=>(Rg.Vz (ent A) m (vF v) r*Rg.qz m (ent A)).c t
theorem Zdz(A:List (List κ.F))(m:Nat)(v:List κ.F)(k:Nat):(imL A m v k).length=m:=ZgJ _ _
theorem ZfY(A:List (List κ.F))(m:Nat)(v:List κ.F)(k:Nat):(wL A m v k).length=m:=ZgJ _ _
theorem ZpD{A:List (List κ.F)}{m:Nat}{v:List κ.F}(h:v.length=m):imL A m v 0=v:=Zb4 (by rw[Zdz,h]) λj hj=>by
  rw[Zdz] at hj
  exact ZbL _ hj
theorem ZcH{A:List (List κ.F)}{i:Nat}(hi:i<A.length)(j:Nat):ent A i j=(A[i]).getD j 0:=by
  unfold ent
  rw[Q3 (l:=A),Q2 hi]; rfl
theorem ZiR{A:List (List κ.F)}{c:List κ.F}{i:Nat}(hi:i<A.length):(Zib A c).getD i 0=Rg.Sg (λj=>ent A i j*c.getD j 0) c.length:=by
  unfold Zib
  rw[Q3,Qa,Q2 hi]
  show Zgy A[i] c c.length=_
  rw[Zej]
  exact Rg.Sg_congr λj _=>by rw[ZcH hi]
theorem ZiS(A:List (List κ.F))(c:List κ.F):(Zib A c).length=A.length:=Q1 ..
theorem Zl2{A:List (List κ.F)}{m:Nat}(hA:A.length=m)(v:List κ.F)(k:Nat):imL A m v (k+1)=Zib A (imL A m v k):=Zb4 (by rw[Zdz,ZiS,hA]) λj hj=>by
  rw[Zdz] at hj
  rw[ZiR ⋯,Zdz]
  refine (ZbL _ hj).trans ?_
  show Rg.Sg (λi=>ent A j i*Rg.im (ent A) m (vF v) k i) m=_
  exact Rg.Sg_congr λi hi=>by rw[show (imL A m v k).getD i 0=Rg.im (ent A) m (vF v) k i from ZbL _ hi]
theorem ZqA{A:List (List κ.F)}{m:Nat}{v:List κ.F}(h:v.length=m):wL A m v 0=v:=Zb4 (by rw[ZfY,h]) λj hj=>by
  rw[ZfY] at hj
  exact (ZbL _ hj).trans (Rg.climb0 _ _ _ _)
theorem ZnG{A:List (List κ.F)}{m:Nat}{v:List κ.F}(hA:A.length=m)(w:Wid m A)(hv:v.length=m)(t:Nat):wL A m v (t+1)=List.zipWith (· + ·) (A.map λr=>ZfD r (wL A m v t)) (v.map ((Rg.qz m (ent A)).c (t+1) * ·)):=by
  refine Zb4 (by rw[ZfY,Uc,Q1,Q1]; omega) λj hj=>?_
  rw[ZfY] at hj
  refine (ZbL _ hj).trans ((Rg.climbS _ _ _ _ _).trans ?_)
  rw[Q3,List.getElem?_zipWith,Qa,Qa,Q2 (show j<A.length by omega),Q2 (show j<v.length by omega)]
  show _=ZfD A[j] (wL A m v t)+(Rg.qz m (ent A)).c (t+1)*v[j]
  have e:vF v j=v[j]:=by
    show v.getD j 0=_
    rw[Q3,Q2 ⋯]; rfl
  rw[e]
  congr 1
  unfold ZfD
  rw[Zej,w _ (Qf _)]
  refine Rg.Sg_congr λi hi=>?_
  rw[ZcH (show j<A.length by omega),show (wL A m v t).getD i 0=_ from ZbL _ hi]
theorem Zjv{R:List (List κ.F)}{n m:Nat}{ls:List Nat}(h:Ech R n m ls 1)(hn:n=ls.length){w:Nat->κ.F}(ker:∀u,Ker R n m u->Zb3 w u m=0):∀j,j<m->w j=Rg.Sg (λk=>w (ls.getD k 0)*ent R k j) ls.length:=by
  intro j hj
  have i1:(Fd.inv (1:κ.F))=1:=by
    have:=Fd.mul_inv (1:κ.F) h.x0
    grind
  by_cases e:∀k<ls.length,ls.getD k 0≠j
  · obtain ⟨v,v1,v2,v3⟩:=ZkD h e
    have kv:=ker v (ZkE h hj e v1 v2 v3)
    rw[i1] at v2
    have key:∀q,q<=m->Zb3 w v q=(if j<q then w j else 0)-Rg.Sg (λk=>(if ls.getD k 0<q then 1 else 0)*(w (ls.getD k 0)*ent R k j)) ls.length:=by
      intro q
      induction q with
      | zero =>
        intro _
        rw[if_neg ⋯,Rg.Sg_congr (g:=λ_=>(0:κ.F)) λk _=>by rw[if_neg ⋯]; grind,Rg.Sg_zero]
        show (0:κ.F)=0-0
        grind
      | succ q ih =>
        intro hq
        show Zb3 w v q+w q*v q=_
        rw[ih ⋯]
        by_cases ej:q=j
        · rw[if_neg ⋯,if_pos ⋯,ej,v1]
          have:Rg.Sg (λk=>(if ls.getD k 0<j then (1:κ.F) else 0)*(w (ls.getD k 0)*ent R k j)) ls.length=Rg.Sg (λk=>(if ls.getD k 0<j+1 then (1:κ.F) else 0)*(w (ls.getD k 0)*ent R k j)) ls.length:=Rg.Sg_congr λk hk=>by
            have:=e k hk
            by_cases a:ls.getD k 0<j
            · rw[if_pos a,if_pos ⋯]
            · rw[if_neg a,if_neg ⋯]
          rw[this]
          grind
        · have e1:(if j<q+1 then w j else 0)=if j<q then w j else 0:=by
            by_cases a:j<q
            · rw[if_pos a,if_pos ⋯]
            · rw[if_neg a,if_neg ⋯]
          rw[e1]
          by_cases el:∀k<ls.length,ls.getD k 0≠q
          · rw[v3 q ej el]
            have:Rg.Sg (λk=>(if ls.getD k 0<q then (1:κ.F) else 0)*(w (ls.getD k 0)*ent R k j)) ls.length=Rg.Sg (λk=>(if ls.getD k 0<q+1 then (1:κ.F) else 0)*(w (ls.getD k 0)*ent R k j)) ls.length:=Rg.Sg_congr λk hk=>by
              have:=el k hk
              by_cases a:ls.getD k 0<q
              · rw[if_pos a,if_pos ⋯]
              · rw[if_neg a,if_neg ⋯]
            rw[this]
            grind
          · obtain ⟨k0,el⟩:=Classical.not_forall.mp el
            obtain ⟨hk0,el⟩:=Classical.not_forall.mp el
            have el:ls.getD k0 0=q:=Classical.not_not.mp el
            have vq:v q=0-1*ent R k0 j:=by rw[<-el]; exact v2 k0 hk0
            rw[vq]
            have:Rg.Sg (λk=>(if ls.getD k 0<q+1 then (1:κ.F) else 0)*(w (ls.getD k 0)*ent R k j)) ls.length=Rg.Sg (λk=>(if ls.getD k 0<q then (1:κ.F) else 0)*(w (ls.getD k 0)*ent R k j)) ls.length+Rg.Sg (λk=>(w q*ent R k j)*(if k0=k then 1 else 0)) ls.length:=by
              rw[Rg.Sg_add]
              refine Rg.Sg_congr λk hk=>?_
              by_cases ek:k0=k
              · rw[if_pos ek,<-ek,el,if_pos (Ur q),if_neg (W0 q)]; grind
              · rw[if_neg ek]
                have:ls.getD k 0≠q:=λz=>by
                  rcases Nat.lt_or_gt_of_ne ek with c | c
                  · have:=h.inc k0 k c hk; omega
                  · have:=h.inc k k0 c hk0; omega
                by_cases a:ls.getD k 0<q
                · rw[if_pos a,if_pos ⋯]; grind
                · rw[if_neg a,if_neg ⋯]; grind
            rw[this,Rg.Sg_one,if_pos hk0]
            grind
    rw[key m (Q4 _),if_pos hj] at kv
    have:Rg.Sg (λk=>(if ls.getD k 0<m then (1:κ.F) else 0)*(w (ls.getD k 0)*ent R k j)) ls.length=Rg.Sg (λk=>w (ls.getD k 0)*ent R k j) ls.length:=Rg.Sg_congr λk hk=>by
      rw[if_pos (h.lt k hk)]; grind
    rw[this] at kv
    grind
  · obtain ⟨k0,e⟩:=Classical.not_forall.mp e
    obtain ⟨hk0,e⟩:=Classical.not_forall.mp e
    have e:ls.getD k0 0=j:=Classical.not_not.mp e
    have:Rg.Sg (λk=>w (ls.getD k 0)*ent R k j) ls.length=Rg.Sg (λk=>w (ls.getD k 0)*(if k0=k then 1 else 0)) ls.length:=Rg.Sg_congr λk hk=>by
      rw[<-e,h.col k0 hk0 k ⋯]
      by_cases a:k=k0
      · rw[if_pos a,if_pos a.symm]
      · rw[if_neg a,if_neg (λz=>a z.symm)]
    rw[this,Rg.Sg_one,if_pos hk0,e]
theorem Zl3{R:List (List κ.F)}{n m:Nat}{ls:List Nat}{x:κ.F}(h:Ech R n m ls x):Ech (R.take ls.length) ls.length m ls x:=by
  have e:∀i,i<ls.length->∀j,ent (R.take ls.length) i j=ent R i j:=λi hi j=>by
    unfold ent
    rw[Q3 (l:=R.take ls.length),Wp,if_pos hi,<-Q3]
  have le:=h.le
  exact ⟨Q4 _,h.lt,h.inc,h.x0,λk hk i hi=>by rw[e i hi]; exact h.col k hk i ⋯,λi a b=>by omega,λk hk j hj=>by rw[e k hk]; exact h.pre k hk j hj⟩
theorem Zl4{R:List (List κ.F)}{n m:Nat}{ls:List Nat}{x:κ.F}(h:Ech R n m ls x)(u:Nat->κ.F):Ker (R.take ls.length) ls.length m u↔Ker R n m u:=by
  have e:∀i,i<ls.length->ent (R.take ls.length) i=ent R i:=λi hi=>by
    funext j
    unfold ent
    rw[Q3 (l:=R.take ls.length),Wp,if_pos hi,<-Q3]
  have le:=h.le
  constructor
  · intro k i hi
    by_cases q:i<ls.length
    · rw[<-e i q]; exact k i q
    · exact ZdP λj hj=>by rw[h.low i ⋯ hi j hj]; grind
  · intro k i hi
    rw[e i hi]; exact k i ⋯
theorem ZiT{R:List (List κ.F)}{n m:Nat}{ls:List Nat}{x:κ.F}(h:Ech R n m ls x)(l:ls.length=m):∀k,k<m->ls.getD k 0=k:=by
  have up:∀d k,d+k+1=m->ls.getD k 0<=k:=λd=>by
    induction d with
    | zero=>intro k hk; have:=h.lt k ⋯; omega
    | succ d ih =>
      intro k hk
      have a:=ih (k+1) ⋯
      have b:=h.inc k (k+1) ⋯ ⋯
      omega
  intro k hk
  have a:=up (m-1-k) k ⋯
  have b:=h.ge k ⋯
  omega
def Nk(A:List (List κ.F))(m:Nat)(cs:List (List κ.F))(u:Nat->κ.F):Prop:=∀c∈cs,Rg.Nl (ent A) m (vF c) u
structure Rom (A:List (List κ.F)) (m:Nat) (cs Rw:List (List κ.F)) (ls:List Nat):Prop where
  e:Ech Rw ls.length m ls 1
  l:Rw.length=ls.length
  w:Wid m Rw
  k:∀u,Ker Rw ls.length m u↔Nk A m cs u
theorem Rom.nil{A:List (List κ.F)}{m:Nat}:Rom A m [] [] [] :=
  ⟨⟨Q4 _,λk h=>by simp at h,λk k' _ h=>by simp at h,λz=>Fd.zne z.symm,λk h=>by simp at h,λi _ h=>by simp at h,λk h=>by simp at h⟩,rfl,λf h=>(nomatch h),λu=>⟨λ_ c hc=>(nomatch hc),λ_ i hi=>by simp at hi⟩⟩
theorem Zk1{A:List (List κ.F)}{m:Nat}{cs:List (List κ.F)}{c:List κ.F}{u:Nat->κ.F}:Nk A m (cs++[c]) u↔Nk A m cs u/\Rg.Nl (ent A) m (vF c) u:=by
  constructor
  · intro h
    exact ⟨λc' hc'=>h c' (Ui _ hc'),h c (W1 _ (Q5.mpr rfl))⟩
  · rintro ⟨a,b⟩ c' hc'
    rcases Qj.mp hc' with z | z
    · exact a c' z
    · rw[Q5.mp z]; exact b
theorem Rom.full{A:List (List κ.F)}{m:Nat}{cs Rw:List (List κ.F)}{ls:List Nat}(h:Rom A m cs Rw ls)(l:ls.length=m)(c:List κ.F):Rom A m (cs++[c]) Rw ls:=by
  refine ⟨h.e,h.l,h.w,λu=>?_⟩
  rw[h.k u,Zk1]
  refine ⟨λq=>⟨q,?_⟩,λq=>q.1⟩
  have ku:=(h.k u).mpr q
  have z:∀j,j<m->u j=0:=λj hj=>by
    have a:=ku j ⋯
    have ej:=ZiT h.e l
    rw[ZdQ (a:=j) hj,show ent Rw j j=1 by have:=h.e.col j ⋯ j ⋯; rw[ej j hj,if_pos rfl] at this; exact this] at a
    · grind
    · intro i hi ne
      have:=h.e.col i ⋯ j ⋯
      rw[ej i hi,if_neg (λz=>ne z.symm)] at this
      rw[this]; grind
  intro k
  rw[Rg.Sg_congr (g:=λ_=>(0:κ.F)) λr hr=>by rw[z r hr]; grind,Rg.Sg_zero]
noncomputable def Zdf(A:List (List κ.F))(m:Nat)(Rw:List (List κ.F))(c:List κ.F):List (List κ.F):=Rw++(List.range m).map (wL A m c)
theorem Zhr(A:List (List κ.F))(m:Nat)(Rw:List (List κ.F))(c:List κ.F):(Zdf A m Rw c).length=Rw.length+m:=by
  unfold Zdf; rw[Qb,Q1,Wd]
theorem ZdU{A:List (List κ.F)}{m:Nat}{Rw:List (List κ.F)}(w:Wid m Rw)(c:List κ.F):Wid m (Zdf A m Rw c):=λf hf=>by
  rcases Qj.mp hf with z | z
  · exact w f z
  · obtain ⟨t,_,rfl⟩:=Ql.mp z
    exact ZfY _ _ _ _
theorem ZiU{R S:List (List κ.F)}{i:Nat}(h:i<R.length):ent (R++S) i=ent R i:=by
  funext j
  unfold ent
  rw[Q3 (l:=R++S),Wi h,<-Q3]
theorem Zl5{R S:List (List κ.F)}{i:Nat}:ent (R++S) (R.length+i)=ent S i:=by
  funext j
  unfold ent
  rw[Q3 (l:=R++S),Ws ⋯,show R.length+i-R.length=i by omega,<-Q3]
theorem ZnH{g:Nat->List κ.F}{n i:Nat}(h:i<n):ent ((List.range n).map g) i=λj=>(g i).getD j 0:=by
  funext j
  unfold ent
  rw[Q3 (l:=List.map g _),Qa,Wq h]; rfl
theorem Zk2{A:List (List κ.F)}{m:Nat}{Rw:List (List κ.F)}{c:List κ.F}{u:Nat->κ.F}:Ker (Zdf A m Rw c) (Zdf A m Rw c).length m u↔Ker Rw Rw.length m u/\Rg.Nl (ent A) m (vF c) u:=by
  have tl:∀t,t<m->Zb3 (ent (Zdf A m Rw c) (Rw.length+t)) u m=Rg.Sg (λr=>(Rg.Vz (ent A) m (vF c) r*Rg.qz m (ent A)).c t*u r) m:=λt ht=>by
    unfold Zdf
    rw[Zl5,ZnH ht,ZcG]
    exact Rg.Sg_congr λr hr=>by rw[show (wL A m c t).getD r 0=_ from ZbL _ hr]
  rw[Zhr]
  constructor
  · intro k
    refine ⟨λi hi=>?_,Rg.nl_climb.mp λt ht=>by rw[<-tl t ht]; exact k _ ⋯⟩
    have:=k i ⋯
    unfold Zdf at this
    rw[ZiU hi] at this
    exact this
  · rintro ⟨a,b⟩ i hi
    by_cases q:i<Rw.length
    · unfold Zdf
      rw[ZiU q]; exact a i q
    · have:=tl (i-Rw.length) ⋯
      rw[show Rw.length+(i-Rw.length)=i by omega] at this
      rw[this]
      exact Rg.nl_climb.mpr b _ ⋯
theorem Rom.step{A:List (List κ.F)}{m:Nat}{cs Rw:List (List κ.F)}{ls:List Nat}(h:Rom A m cs Rw ls){c:List κ.F}{ts:List (Tn κ)}{ls':List Nat}(ok:∀t∈ts,t.ok (Zdf A m Rw c).length)(ech:Ech (ZcJ ts (Zdf A m Rw c)) (Zdf A m Rw c).length m ls' 1):Rom A m (cs++[c]) ((ZcJ ts (Zdf A m Rw c)).take ls'.length) ls':=by
  have le:=ech.le
  refine ⟨Zl3 ech,by rw[Qi,ZeI]; omega,λf hf=>ZeK (ZdU h.w c) ok f (Wl hf),λu=>?_⟩
  rw[Zl4 ech u,ZiB (ZdU h.w c) ok,Zk2,h.l,h.k u,Zk1]
theorem Rom.within{A:List (List κ.F)}{m:Nat}{cs Rw:List (List κ.F)}{ls:List Nat}(h:Rom A m cs Rw ls){w:Nat->κ.F}(ker:∀u,Nk A m cs u->Zb3 w u m=0):∀j,j<m->w j=Rg.Sg (λk=>w (ls.getD k 0)*ent Rw k j) ls.length :=
  Zjv h.e rfl λu ku=>ker u ((h.k u).mp ku)
theorem Rom.col{A:List (List κ.F)}{m:Nat}{cs Rw:List (List κ.F)}{ls:List Nat}(h:Rom A m cs Rw ls){c:List κ.F}(hc:c∈cs):∀j,j<m->c.getD j 0=Rg.Sg (λk=>c.getD (ls.getD k 0) 0*ent Rw k j) ls.length :=
  h.within (w:=vF c) λu ku=>by rw[ZcG]; exact ku c hc 0
theorem Rom.img{A:List (List κ.F)}{m:Nat}{cs Rw:List (List κ.F)}{ls:List Nat}(h:Rom A m cs Rw ls)(hA:A.length=m){f:List κ.F}(hf:f∈Rw):∀j,j<m->(Zib A f).getD j 0=Rg.Sg (λk=>(Zib A f).getD (ls.getD k 0) 0*ent Rw k j) ls.length:=by
  refine h.within (w:=vF (Zib A f)) λu ku=>?_
  have n:Nk A m cs (λj=>Rg.Sg (λi=>ent A i j*u i) m):=λc hc=>Rg.nl_img (ku c hc)
  obtain ⟨i,hi,rfl⟩:=Wg hf
  have kr:=(h.k _).mpr n i (by rw[<-h.l]; exact hi)
  rw[ZcG] at kr ⊢
  have lf:(Rw[i]).length=m:=h.w _ (Qf _)
  have e:Rg.Sg (λj=>vF (Zib A Rw[i]) j*u j) m=Rg.Sg (λj=>ent Rw i j*Rg.Sg (λi=>ent A i j*u i) m) m:=by
    have e1:∀j,j<m->vF (Zib A Rw[i]) j*u j=Rg.Sg (λl=>ent A j l*ent Rw i l*u j) m:=λj hj=>by
      show (Zib A Rw[i]).getD j 0*u j=_
      rw[ZiR ⋯,lf]
      have:=Rg.Sg_mul (u j) (λl=>ent A j l*(Rw[i]).getD l 0) m
      rw[show Rg.Sg (λl=>ent A j l*(Rw[i]).getD l 0) m*u j=u j*Rg.Sg (λl=>ent A j l*(Rw[i]).getD l 0) m by grind,this]
      exact Rg.Sg_congr λl _=>by rw[ZcH hi]; grind
    rw[Rg.Sg_congr e1,Rg.Sg_comm]
    refine Rg.Sg_congr λl _=>?_
    rw[Rg.Sg_mul]
    exact Rg.Sg_congr λj _=>by grind
  rw[e]; exact kr
theorem Rom.rank{A:List (List κ.F)}{m:Nat}{cs Rw:List (List κ.F)}{ls:List Nat}(h:Rom A m cs Rw ls){G R':List (List κ.F)}{n:Nat}{ls':List Nat}(hn:G.length=n)(k1:∀u,Ker R' n m u↔Ker G n m u)(ech:Ech R' n m ls' 1)(g1:∀f∈G,∃c∈cs,∃k,f=imL A m c k)(g2:∀c∈cs,∀k,k<m->imL A m c k∈G):ls'=ls:=by
  refine ZiE ech h.e λu=>?_
  have pr:∀c k,Zb3 (vF (imL A m c k)) u m=Rg.Sg (λr=>Rg.im (ent A) m (vF c) k r*u r) m:=λc k=>by
    rw[ZcG]
    exact Rg.Sg_congr λr hr=>by rw[show vF (imL A m c k) r=_ from ZbL _ hr]
  rw[k1 u,h.k u]
  constructor
  · intro nk i hi
    obtain ⟨c,hc,k,e⟩:=g1 _ (Qf (show i<G.length by omega))
    have:ent G i=vF (imL A m c k):=by funext j; rw[ZcH ⋯,e]
    rw[this,pr]
    exact nk c hc k
  · intro kg c hc
    refine Rg.nl_low λk hk=>?_
    obtain ⟨i,hi,e⟩:=Wg (g2 c hc k hk)
    have:ent G i=vF (imL A m c k):=by funext j; rw[ZcH hi,e]
    have q:=kg i ⋯
    rw[this,pr] at q
    exact q
end
end My
namespace My
open PySem L2 PyProof.Rows
section
variable{κ:KX}
theorem Zhs{h:Nat->κ.F}{D:Int}(hD:0<D){M:Nat}:∀k,(∀i,i<k->QN κ D M (h i))->QN κ D (k*M) (Rg.Sg h k)
  | 0,_=>QN.zero
  | k+1,e=>by
    rw[Nat.succ_mul]
    exact QN.add hD (Zhs hD k λi hi=>e i ⋯) (e k ⋯)
theorem Zl6{a:Nat->Nat->κ.F}{v:Nat->κ.F}{m:Nat}(hm:m<=7)(ha:∀i j,QN κ ((12:Nat):Int) 108 (a i j))(hv:∀i,QN κ ((12:Nat):Int) 108 (v i)):∀k i,QN κ ((12^(k+1):Nat):Int) (756^k*108) (Rg.im a m v k i)
  | 0,i=>hv i
  | k+1,i=>by
    refine QN.mono (Zhs (D:=((12^(k+2):Nat):Int)) (M:=108*(756^k*108)) (by have:=Uf (n:=k+2) (show 0<12 by decide); omega) m λj _=>?_) ?_
    · have:=QN.mulN (ha i j) (Zl6 hm ha hv k j)
      rwa [show 12*12^(k+1)=12^(k+2) by rw[Wc 12 (k+1),W7]] at this
    · rw[Wc,W7 (756^k) 756,Wb,<-Wb m 108]
      exact W3 _ ⋯
theorem ZmE{D:Int}{M:Nat}{x:κ.F}(h:QN κ D M x):∀j,QN κ D M (Rg.sgn κ.F j*x)
  | 0=>by
    have e:Rg.sgn κ.F 0*x=x:=by show (1:κ.F)*x=x; grind
    rw[e]; exact h
  | j+1=>by
    have e:Rg.sgn κ.F (j+1)*x=0-Rg.sgn κ.F j*x:=by show (0-Rg.sgn κ.F j)*x=_; grind
    rw[e]; exact (ZmE h j).neg
theorem ZmF:∀(n:Nat) (A B:Nat->Nat->κ.F),n<=7->(∀i j,QN κ ((1:Nat):Int) 1 (A i j))->(∀i j,QN κ ((12:Nat):Int) 108 (B i j))->∀k,QN κ ((12^k:Nat):Int) (763^n) ((Rg.det n λi j=>Rg.lin (A i j) (B i j)).c k)
  | 0,A,B,_,hA,hB,k=>by
    show QN κ _ _ ((1:Rg.Ps κ.F).c k)
    rw[Rg.Ps.c_one]
    by_cases q:k=0
    · rw[if_pos q,q]; exact Zhl
    · rw[if_neg q]; exact QN.zero
  | n+1,A,B,hn,hA,hB,k=>by
    have ih:=λj=>ZmF n (λi k=>A (i+1) (Rg.skip j k)) (λi k=>B (i+1) (Rg.skip j k)) ⋯ (λi k=>hA _ _) (λi k=>hB _ _)
    show QN κ _ _ ((Rg.Sg (λj=>Rg.sgn (Rg.Ps κ.F) j*Rg.lin (A 0 j) (B 0 j)*Rg.det n (λi k=>Rg.lin (A (i+1) (Rg.skip j k)) (B (i+1) (Rg.skip j k)))) (n+1)).c k)
    rw[Rg.Ps.c_Sg]
    have p12:(0:Int)<((12^k:Nat):Int):=by have:=Uf (n:=k) (show 0<12 by decide); omega
    refine QN.mono (Zhs (M:=109*763^n) p12 (n+1) λj _=>?_) ?_
    · rw[Rg.term_c]
      refine ZmE ?_ j
      have e:109*763^n=763^n+108*763^n:=by omega
      rw[e]
      refine QN.add p12 ?_ ?_
      · have:=QN.mulN (hA 0 j) (ih j k)
        rwa [Uw,Uw] at this
      · by_cases q:k=0
        · rw[if_pos q]; exact QN.zero
        · rw[if_neg q]
          have:=QN.mulN (hB 0 j) (ih j (k-1))
          rwa [show 12*12^(k-1)=12^k by cases k with | zero=>exact absurd rfl q | succ k=>rw[Wc,W7,Nat.add_sub_cancel]] at this
    · rw[Wc,W7 (763^n) 763,<-Wb]
      exact W3 _ ⋯
theorem ZoO{a:Nat->Nat->κ.F}{m:Nat}(hm:m<=7)(ha:∀i j,QN κ ((12:Nat):Int) 108 (a i j))(k:Nat):QN κ ((12^k:Nat):Int) (763^m) ((Rg.qz m a).c k) :=
  ZmF m _ _ hm (λi j=>by
    by_cases q:j=i
    · rw[if_pos q]; exact Zhl
    · rw[if_neg q]; exact QN.zero) (λi j=>(ha i j).neg) k
theorem ZqB{a:Nat->Nat->κ.F}{v:Nat->κ.F}{m:Nat}(hm:m<=7)(ha:∀i j,QN κ ((12:Nat):Int) 108 (a i j))(hv:∀i,QN κ ((12:Nat):Int) 108 (v i))(r:Nat){t:Nat}(ht:t<=7):QN κ ((12^8:Nat):Int) (10^54) ((Rg.Vz a m v r*Rg.qz m a).c t):=by
  rw[Rg.Ps.c_mul]
  have p12:∀k,0<12^k:=λk=>Uf ∅
  have q:QN κ ((12^(t+1):Nat):Int) ((t+1)*(756^7*108*763^7)) (Rg.Sg (λi=>(Rg.Vz a m v r).c i*(Rg.qz m a).c (t-i)) (t+1)):=by
    refine Zhs (by have:=p12 (t+1); omega) (t+1) λi hi=>?_
    have:=QN.mulN (Zl6 hm ha hv i r) (ZoO hm ha (t-i))
    rw[<-U0,show i+1+(t-i)=t+1 by omega] at this
    refine QN.mono this (Qm (W3 _ (Qd ∅ ⋯)) (Qd ∅ hm))
  have u:=q.upN (p12 (t+1)) (p12 (7-t))
  rw[<-U0,show t+1+(7-t)=8 by omega] at u
  refine u.mono (Q0 (Qm (W3 _ (show t+1<=8 by omega)) (Qd ∅ (show 7-t<=7 by omega))) ∅)
theorem ZgK{D:Int}{M:Nat}{f:List κ.F}(h:∀x∈f,QN κ D M x)(i:Nat):QN κ D M (f.getD i 0):=by
  by_cases q:i<f.length
  · rw[Q3,Q2 q]; exact h _ (Qf _)
  · rw[Q3,U4 ⋯]; exact QN.zero
theorem ZmG{Pr:κ.F->Prop}{g:Nat->κ.F}{m:Nat}(h:∀i,i<m->Pr (g i)):∀x∈(List.range m).map g,Pr x:=λx hx=>by
  obtain ⟨i,hi,rfl⟩:=Ql.mp hx
  exact h i (Wr.mp hi)
abbrev Q12(κ:KX)(x:κ.F):Prop:=QN κ ((12:Nat):Int) 108 x
theorem ZoP{A:List (List κ.F)}{m:Nat}{v:List κ.F}(hm:m<=7)(ha:AllR (Q12 κ) A)(hv:∀x∈v,Q12 κ x){t:Nat}(ht:t<=7):∀x∈wL A m v t,QN κ ((12^8:Nat):Int) (10^54) x :=
  ZmG λr _=>ZqB hm (λi j=>Zez ha i j) (λi=>ZgK hv i) r ht
theorem ZoQ{A:List (List κ.F)}{m:Nat}{v:List κ.F}(hm:m<=7)(ha:AllR (Q12 κ) A)(hv:∀x∈v,Q12 κ x)(k:Nat):∀x∈imL A m v k,QN κ ((12^(k+1):Nat):Int) (756^k*108) x :=
  ZmG λr _=>Zl6 hm (λi j=>Zez ha i j) (λi=>ZgK hv i) k r
theorem ZoR{A:List (List κ.F)}{m:Nat}{v:List κ.F}(hm:m<=7)(ha:AllR (Q12 κ) A)(hv:∀x∈v,Q12 κ x){k:Nat}(hk:k<3)(i:Nat):QN κ ((1728:Nat):Int) (10^8) (Rg.im (ent A) m (vF v) k i):=by
  have q:=Zl6 hm (λi j=>Zez ha i j) (λi=>ZgK hv i) k i
  have u:=q.upN (Uf ∅) (c:=12^(2-k)) (Uf ∅)
  rw[<-U0,show k+1+(2-k)=3 by omega] at u
  refine u.mono ?_
  obtain rfl | rfl | rfl:k=0\/k=1\/k=2:=by omega
  · decide
  · decide
  · decide
theorem Zen{Pr:κ.F->Prop}{R:List (List κ.F)}{m:Nat}(w:Wid m R)(h:∀i,i<R.length->∀j,j<m->Pr (ent R i j)):AllR Pr R:=λf hf x hx=>by
  obtain ⟨i,hi,rfl⟩:=Wg hf
  obtain ⟨j,hj,rfl⟩:=Wg hx
  have:=h i hi j (by rw[<-w _ (Qf hi)]; exact hj)
  rw[ZcH hi,Q3,Q2 hj] at this
  exact this
theorem Rom.pair{A:List (List κ.F)}{m:Nat}{cs Rw:List (List κ.F)}{ls:List Nat}(h:Rom A m cs Rw ls){l0 l1:Nat}(h0:l0<m)(h1:l1<m)(ne:l0≠l1){x y:κ.F}(z:∀c∈cs,∀k,k<m->Rg.im (ent A) m (vF c) k l0*x+Rg.im (ent A) m (vF c) k l1*y=0):∀i,i<ls.length->ent Rw i l0*x+ent Rw i l1*y=0:=by
  have s2:∀f:Nat->κ.F,Zb3 f (λj=>if j=l0 then x else if j=l1 then y else 0) m=f l0*x+f l1*y:=λf=>by
    rw[Zgu ne h0 h1,if_pos rfl,if_neg (Ne.symm ne),if_pos rfl]
    intro j _ a b
    rw[if_neg a,if_neg b]; grind
  have k:=(h.k (λj=>if j=l0 then x else if j=l1 then y else 0)).mpr λc hc=>Rg.nl_low λk hk=>by
    rw[<-ZcG,s2]; exact z c hc k hk
  intro i hi
  rw[<-s2]; exact k i hi
theorem Rom.size{A:List (List κ.F)}{m:Nat}{cs Rw:List (List κ.F)}{ls:List Nat}(h:Rom A m cs Rw ls)(m3:m<=3)(ha:AllR (Q12 κ) A)(hc:∀c∈cs,∀x∈c,Q12 κ x):∃D M:Nat,0<D/\D<=10^23/\M<=10^23/\AllR (QN κ (D:Int) M) Rw:=by
  have le:=h.e.lc
  have qi:∀c∈cs,∀k,k<m->∀i,QN κ ((1728:Nat):Int) (10^8) (Rg.im (ent A) m (vF c) k i):=λc hc' k hk i=>ZoR ⋯ ha (hc c hc') ⋯ i
  have win:∀c∈cs,∀k,k<m->∀j,j<m->Rg.im (ent A) m (vF c) k j=Rg.Sg (λl=>Rg.im (ent A) m (vF c) k (ls.getD l 0)*ent Rw l j) ls.length:=λc hc' k hk=>h.within λu nu=>by rw[ZcG]; exact nu c hc' k
  by_cases e0:ls.length=0
  · refine ⟨1,1,∅,∅,∅,λf hf=>?_⟩
    have:=h.l
    rw[List.eq_nil_of_length_eq_zero (l:=Rw) ⋯] at hf
    exact nomatch hf
  by_cases em:ls.length=m
  · refine ⟨1,1,∅,∅,∅,Zen h.w λi hi j hj=>?_⟩
    have:=h.e.col j ⋯ i (by rw[<-h.l]; exact hi)
    rw[ZiT h.e em j hj] at this
    rw[this]
    by_cases q:i=j
    · rw[if_pos q]; exact Zhl
    · rw[if_neg q]; exact QN.zero
  have l0m:=h.e.lt 0 ⋯
  have l00:=h.e.col 0 ⋯ 0 ⋯
  rw[if_pos rfl] at l00
  by_cases e1:ls.length=1
  · -- one row
    have ex:∃c∈cs,∃k,k<m/\Rg.im (ent A) m (vF c) k (ls.getD 0 0)≠0:=Classical.byContradiction λnx=>by
      have z:∀c∈cs,∀k,k<m->Rg.im (ent A) m (vF c) k (ls.getD 0 0)=0:=λc hc' k hk=>Classical.byContradiction λq=>nx ⟨c,hc',k,hk,q⟩
      obtain ⟨l1,hl1,ne⟩:∃l1,l1<m/\ls.getD 0 0≠l1:=by
        by_cases q:ls.getD 0 0=0
        · exact ⟨1,⋯,⋯⟩
        · exact ⟨0,⋯,q⟩
      have:=h.pair l0m hl1 ne (x:=1) (y:=0) (λc hc' k hk=>by rw[z c hc' k hk]; grind) 0 ⋯
      rw[l00] at this
      exact Fd.zne (by grind:(0:κ.F)=1)
    obtain ⟨c,hc',k,hk,ne⟩:=ex
    obtain ⟨a,a0,al,qa⟩:=ZkY ∅ ∅ (qi c hc' k hk _) ne
    refine ⟨1728*a,10^8*1728,⋯,⋯,∅,Zen h.w λi hi j hj=>?_⟩
    have i0:i=0:=by have:=h.l; omega
    rw[i0]
    have wj:=win c hc' k hk j hj
    rw[e1] at wj
    have wj:Rg.im (ent A) m (vF c) k j=0+Rg.im (ent A) m (vF c) k (ls.getD 0 0)*ent Rw 0 j:=wj
    have mi:=Fd.mul_inv _ ne
    have:ent Rw 0 j=Rg.im (ent A) m (vF c) k j*Fd.inv (Rg.im (ent A) m (vF c) k (ls.getD 0 0)):=by
      rw[wj]
      generalize Rg.im (ent A) m (vF c) k (ls.getD 0 0)=g at *
      grind
    rw[this]
    exact QN.mulN (qi c hc' k hk j) qa
  have e2:ls.length=2:=by omega
  have em3:m=3:=by omega
  have l1m:=h.e.lt 1 ⋯
  have l01:=h.e.inc 0 1 ⋯ ⋯
  have l10:=h.e.col 0 ⋯ 1 ⋯
  have c1:=h.e.col 1 ⋯ 1 ⋯
  have c0:=h.e.col 1 ⋯ 0 ⋯
  rw[if_neg ∅] at l10 c0
  rw[if_pos rfl] at c1
  generalize hl0:ls.getD 0 0=l0 at *
  generalize hl1:ls.getD 1 0=l1 at *
  have ex:∃c∈cs,∃k,k<m/\∃c'∈cs,∃k',k'<m/\Rg.im (ent A) m (vF c) k l0*Rg.im (ent A) m (vF c') k' l1-Rg.im (ent A) m (vF c) k l1*Rg.im (ent A) m (vF c') k' l0≠0:=Classical.byContradiction λnx=>by
    have z:∀c∈cs,∀k,k<m->∀c'∈cs,∀k',k'<m->Rg.im (ent A) m (vF c) k l0*Rg.im (ent A) m (vF c') k' l1-Rg.im (ent A) m (vF c) k l1*Rg.im (ent A) m (vF c') k' l0=0:=λc hc' k hk c' hc2 k' hk'=>Classical.byContradiction λq=>nx ⟨c,hc',k,hk,c',hc2,k',hk',q⟩
    have a1:∀c∈cs,∀k,k<m->Rg.im (ent A) m (vF c) k l0=0/\Rg.im (ent A) m (vF c) k l1=0:=λc hc' k hk=>by
      have p:=h.pair l0m l1m ⋯ (x:=Rg.im (ent A) m (vF c) k l1) (y:=0-Rg.im (ent A) m (vF c) k l0) (λc' hc2 k' hk'=>by have:=z c hc' k hk c' hc2 k' hk'; grind)
      have p0:=p 0 ⋯
      have p1:=p 1 ⋯
      rw[l00,c0] at p0
      rw[l10,c1] at p1
      exact ⟨by grind,by grind⟩
    have p:=h.pair l0m l1m ⋯ (x:=1) (y:=0) (λc' hc2 k' hk'=>by rw[(a1 c' hc2 k' hk').1]; grind) 0 ⋯
    rw[l00] at p
    exact Fd.zne (by grind:(0:κ.F)=1)
  obtain ⟨c,hc',k,hk,c',hc2,k',hk',ne⟩:=ex
  have qg:=qi c hc' k hk
  have qh:=qi c' hc2 k' hk'
  have wg:=win c hc' k hk
  have wh:=win c' hc2 k' hk'
  rw[e2] at wg wh
  have wg':∀j,j<m->Rg.im (ent A) m (vF c) k j=Rg.im (ent A) m (vF c) k l0*ent Rw 0 j+Rg.im (ent A) m (vF c) k l1*ent Rw 1 j:=λj hj=>by
    have:=wg j hj
    have:Rg.im (ent A) m (vF c) k j=0+Rg.im (ent A) m (vF c) k (ls.getD 0 0)*ent Rw 0 j+Rg.im (ent A) m (vF c) k (ls.getD 1 0)*ent Rw 1 j:=this
    rw[hl0,hl1] at this
    rw[this]; grind
  have wh':∀j,j<m->Rg.im (ent A) m (vF c') k' j=Rg.im (ent A) m (vF c') k' l0*ent Rw 0 j+Rg.im (ent A) m (vF c') k' l1*ent Rw 1 j:=λj hj=>by
    have:=wh j hj
    have:Rg.im (ent A) m (vF c') k' j=0+Rg.im (ent A) m (vF c') k' (ls.getD 0 0)*ent Rw 0 j+Rg.im (ent A) m (vF c') k' (ls.getD 1 0)*ent Rw 1 j:=this
    rw[hl0,hl1] at this
    rw[this]; grind
  generalize Rg.im (ent A) m (vF c) k=g at *
  generalize Rg.im (ent A) m (vF c') k'=f at *
  have p2:(0:Int)<((1728*1728:Nat):Int):=by decide
  have qd:QN κ ((1728*1728:Nat):Int) (10^8*10^8+10^8*10^8) (g l0*f l1-g l1*f l0):=QN.sub p2 (QN.mulN (qg l0) (qh l1)) (QN.mulN (qg l1) (qh l0))
  obtain ⟨a,a0,al,qa⟩:=ZkY ∅ ∅ qd ne
  have mi:=Fd.mul_inv _ ne
  refine ⟨1728*1728*a,(10^8*10^8+10^8*10^8)*(1728*1728),⋯,Q0 (W6 _ al) ∅,∅,Zen h.w λi hi j hj=>?_⟩
  have a1:=wg' j hj
  have a2:=wh' j hj
  have e3:ent Rw 0 j=(g j*f l1-f j*g l1)*Fd.inv (g l0*f l1-g l1*f l0):=by
    rw[a1,a2]
    generalize Fd.inv (g l0*f l1-g l1*f l0)=y at *
    grind
  have e4:ent Rw 1 j=(f j*g l0-g j*f l0)*Fd.inv (g l0*f l1-g l1*f l0):=by
    rw[a1,a2]
    generalize Fd.inv (g l0*f l1-g l1*f l0)=y at *
    grind
  obtain rfl | rfl:i=0\/i=1:=by have:=h.l; omega
  · rw[e3]
    exact QN.mulN (QN.sub p2 (QN.mulN (qg j) (qh l1)) (QN.mulN (qh j) (qg l1))) qa
  · rw[e4]
    exact QN.mulN (QN.sub p2 (QN.mulN (qh j) (qg l0)) (QN.mulN (qg j) (qh l0))) qa
theorem Rom.sz{A:List (List κ.F)}{m:Nat}{cs Rw:List (List κ.F)}{ls:List Nat}(h:Rom A m cs Rw ls)(m3:κ = .q->m<=3)(ha:AllR (Q12 κ) A)(hc:∀c∈cs,∀x∈c,Q12 κ x):∃D M:Nat,0<D/\D<=10^23/\M<=10^23/\AllR (QN κ (D:Int) M) Rw:=by
  cases κ with
  | q=>exact h.size (m3 rfl) ha hc
  | r p hp=>exact ⟨1,1,∅,∅,∅,λ_ _ _ _=>trivial⟩
theorem ZoS{D:Int}{M a:Nat}{x:κ.F}(h:QN κ D M x)(l:M<2^a):QS κ D a x:=by
  cases κ with
  | r p hp=>exact trivial
  | q=>obtain ⟨X,e,b⟩:=h; exact ⟨X,e,Bits.of (Qs b l)⟩
theorem Rom.qt{A:List (List κ.F)}{m:Nat}{cs Rw:List (List κ.F)}{ls:List Nat}(h:Rom A m cs Rw ls)(m3:κ = .q->m<=3)(m7:m<=7)(ha:AllR (Q12 κ) A)(hc:∀c∈cs,∀x∈c,Q12 κ x){c:List κ.F}(qc:∀x∈c,Q12 κ x):QT κ (Zdf A m Rw c):=λz=>by
  refine ⟨λf hf=>by rw[ZdU h.w c f hf]; exact m3 z,?_⟩
  obtain ⟨D,M,d0,dl,ml,q⟩:=h.sz m3 ha hc
  have big:10^100<2^900:=by decide
  have p12:0<12^8:=by decide
  refine ⟨((D*12^8:Nat):Int),by have:=U7 d0 p12; omega,Bits.of (by rw[Qy]; exact Qs (Q0 (W3 _ dl) ∅) big),λf hf x hx=>?_⟩
  rcases Qj.mp hf with y | y
  · exact ZoS ((q f y x hx).upN d0 p12) (Qs (Q0 (W3 _ ml) ∅) big)
  · obtain ⟨t,ht,rfl⟩:=Ql.mp y
    have ht:=Wr.mp ht
    have:=(ZoP m7 ha qc (show t<=7 by omega) x hx).upN p12 d0
    rw[W7 (12^8) D] at this
    exact ZoS this (Qs (Q0 (W6 _ dl) ∅) big)
end
end My
namespace My
open PySem L2 PyProof.Rows
section
variable{κ:KX}
theorem ZoT(zs:List V):ZeT zs none (some (-1))=zs.take (zs.length-1):=by
  unfold ZeT
  rw[HT.sIx_none,List.drop_zero,Nat.sub_zero]
  have:HT.sIx zs.length zs.length (some (-1))=zs.length-1:=by
    simp only[HT.sIx]
    rw[if_pos ∅]
    omega
  rw[this]
theorem RowsX.take{κ:KX}{H:Hp}{as:List Addr}{R:List (List κ.F)}(h:RowsX κ H as R)(k:Nat):RowsX κ H (as.take k) (R.take k):=by
  refine ⟨by rw[Qi,Qi,h.1],λi a f ha hf=>?_⟩
  rw[Wp] at ha hf
  by_cases q:i<k
  · rw[if_pos q] at ha hf; exact h.2 i a f ha hf
  · rw[if_neg q] at ha; cases ha
noncomputable def ZnX(A:List (List κ.F))(m:Nat)(v:List κ.F)(i:Nat):List κ.F:=match i with
  | 0=>List.replicate m 0
  | t+1=>wL A m v t
theorem Zl7(A:List (List κ.F))(m:Nat)(v:List κ.F):∀i,(ZnX A m v i).length=m
  | 0=>Wt ..
  | t+1=>ZfY ..
theorem Zl8{A:List (List κ.F)}{m:Nat}{v:List κ.F}(hA:A.length=m)(w:Wid m A)(hv:v.length=m):∀i,List.zipWith (· + ·) (A.map λr=>ZfD r (ZnX A m v i)) (v.map ((Rg.qz m (ent A)).c i * ·))=wL A m v i
  | 0=>by
    rw[ZqA hv]
    refine Zb4 (by rw[Uc,Q1,Q1]; omega) λj hj=>?_
    rw[Uc,Q1,Q1] at hj
    have hj2:j<v.length:=by omega
    rw[Q3,List.getElem?_zipWith,Qa,Qa,Q2 (show j<A.length by omega),Q2 hj2,Q3,Q2 hj2]
    show ZfD A[j] (List.replicate m 0)+(Rg.qz m (ent A)).c 0*v[j]=v[j]
    have z:ZfD A[j] (List.replicate m 0)=0:=by
      unfold ZfD
      rw[Zej,Rg.Sg_congr (g:=λ_=>(0:κ.F)) λi _=>?_,Rg.Sg_zero]
      have:(List.replicate m (0:κ.F)).getD i 0=0:=by
        rw[Q3,List.getElem?_replicate]
        split <;> rfl
      rw[this]; grind
    rw[z,Rg.qz_c0]; grind
  | t+1=>(ZnG hA w hv t).symm
theorem ZoU{A:List (List κ.F)}{m:Nat}{v:List κ.F}(hm:m<=7)(ha:AllR (Q12 κ) A)(hv:∀x∈v,Q12 κ x):∀i,i<=8->∀x∈ZnX A m v i,QN κ ((12^8:Nat):Int) (10^54) x
  | 0,_,x,hx=>by
    rw[List.eq_of_mem_replicate hx]; exact QN.zero
  | t+1,ht,x,hx=>ZoP hm ha hv ⋯ x hx
theorem ZoV{A:List (List κ.F)}{m:Nat}{f:List κ.F}(hm:m<=7)(w:Wid m A)(ha:AllR (Q12 κ) A)(lf:f.length=m){D M:Nat}(d0:0<D)(dl:D<=10^100)(ml:M<=10^100)(hf:∀x∈f,QN κ (D:Int) M x):∀x∈A.map (λr=>ZfD r f),B1 κ x:=λx hx=>by
  obtain ⟨r,hr,rfl⟩:=Ql.mp hx
  have lr:=w r hr
  have q:=Zgz (D:=((12:Nat):Int)) (E:=(D:Int)) (Qp ∅ ⋯) (ha r hr) hf r.length (Q4 _) ⋯
  rw[<-We] at q
  exact ZbM (U7 ∅ d0) (Q0 (W6 12 dl) ∅) (Q0 (Qm (show r.length<=7 by omega) (W6 108 ml)) ∅) q
theorem ZoW{A:List (List κ.F)}{m:Nat}{v:List κ.F}(hm:m<=7)(ha:AllR (Q12 κ) A)(hv:∀x∈v,Q12 κ x){i:Nat}(hi:i<=8):B1 κ ((Rg.qz m (ent A)).c i)/\(∀x∈v,B1 κ x)/\∀x∈v.map ((Rg.qz m (ent A)).c i * ·),B1 κ x:=by
  have q:=ZoO hm (λi j=>Zez ha i j) i
  have p:0<12^i:=Uf ∅
  have l:12^i<=10^20:=Q0 (Qd ∅ hi) ∅
  have l2:763^m<=10^30:=Q0 (Qd ∅ hm) ∅
  refine ⟨ZbM p (Q0 l ∅) (Q0 l2 ∅) q,λx hx=>ZbM ∅ ∅ ∅ (hv x hx),λx hx=>?_⟩
  obtain ⟨y,hy,rfl⟩:=Ql.mp hx
  exact ZbM (U7 p ∅) (Q0 (W3 12 l) ∅) (Q0 (W3 108 l2) ∅) (QN.mulN q (hv y hy))
theorem ZnI(m:Nat)(a:Nat->Nat->κ.F):(coL (Rg.chi m a) (m+1)).reverse=coL (Rg.qz m a) (m+1):=by
  rw[<-Zk0,List.reverse_reverse]
end
structure ColL (κ:KX) (H:Hp) (a:Addr) (xs:List V) (v:List κ.F):Prop where
  l:H a=some (.lst xs)
  al:AllG (NR κ H) xs v
theorem ColL.same{κ:KX}{H H':Hp}{a:Addr}{xs:List V}{v:List κ.F}(h:ColL κ H a xs v)(S:Same H H'):ColL κ H' a xs v:=⟨S _ _ h.l,h.al.mono λ_ _ n=>n.same S⟩
inductive Zfu (CF CR:Addr) (vs:List V) (H:Hp) (Q:VK) (zE:XK):Prop
  | mk (κ:KX) (s a c:Addr) (rs:List Addr) (R:List (List κ.F)) (xs:List V) (f:List κ.F) (D E M N:Nat) (_:vs=[.ref s,.ref a,.ref c]) (_:KdX CF CR κ H s) (_:TabL κ H a rs R f.length) (_:ColL κ H c xs f) (_:AllR (QN κ (D:Int) M) R) (_:(∀x∈f,QN κ (E:Int) N x)) (_:0<D) (_:D<=10^200) (_:0<E) (_:E<=10^200) (_:M<=10^500) (_:N<=10^500) (_:∀(H':Hp) (D:Addr) (ys:List V),Same H H'->H D=none->H' D=some (.lst ys)->AllG (NR κ H') ys (R.map λr=>ZfD r f)->Q (.ref D) H'):Zfu CF CR vs H Q zE
inductive Zcd (cF:Addr) (vs:List V) (H:Hp) (Q:VK) (E:XK):Prop
  | mk (a c:Addr) (as xs:List V) (_:vs=[.ref a,.ref c]) (_:H a=some (.lst as)) (_:H c=some (.lst xs)) (_:(xs.length=as.length->Q .non H)) (_:(xs.length≠as.length->E (.ref cF) none H)):Zcd cF vs H Q E
inductive Zeo (CF CR:Addr) (vs:List V) (H:Hp) (Q:VK) (zE:XK):Prop
  | mk (κ:KX) (s fa ta ca:Addr) (fs:List V) (rs:List Addr) (A:List (List κ.F)) (xs:List V) (v:List κ.F) (m:Nat) (_:vs=[.ref s,.ref fa,.ref ta,.ref ca]) (_:KdX CF CR κ H s) (_:ColL κ H fa fs (coL (Rg.chi m (ent A)) (m+1))) (_:TabL κ H ta rs A m) (_:A.length=m) (_:m<=7) (_:AllR (Q12 κ) A) (_:ColL κ H ca xs v) (_:v.length=m) (_:(∀x∈v,Q12 κ x)) (_:∀(H':Hp) (D:Addr) (cs:List Addr),Same H H'->H' D=some (.lst (cs.map V.ref))->RowsX κ H' cs ((List.range (m+1)).map (wL A m v))->Q (.ref D) H'):Zeo CF CR vs H Q zE
inductive Zfv (CF CR:Addr) (vs:List V) (H:Hp) (Q:VK) (zE:XK):Prop
  | mk (κ:KX) (s tb:Addr) (rs:List Addr) (R0:List (List κ.F)) (m:Nat) (_:vs=[.ref s,.ref tb]) (_:KdX CF CR κ H s) (_:H tb=some (.lst (rs.map V.ref))) (_:RowsX κ H rs R0) (_:Wid m R0) (_:1<=R0.length) (_:R0.length<=13) (_:m<=7) (_:QT κ R0) (_:∀(H':Hp) (D:Addr) (rs':List Addr) (ts:List (Tn κ)) (ls:List Nat),Same H H'->H' D=some (.lst (rs'.map V.ref))->RowsX κ H' rs' ((ZcJ ts R0).take ls.length)->(∀t∈ts,t.ok R0.length)->Ech (ZcJ ts R0) R0.length m ls 1->H D=none->(∀a∈rs',H a=none)->rs'.Nodup->D∉rs'->Q (.ref D) H'):Zfv CF CR vs H Q zE
def Zic(κ:KX)(H:Hp)(ca:Addr)(cas:List Addr)(cs:List (List κ.F)):Prop:=H ca=some (.lst (cas.map V.ref))/\RowsX κ H cas cs
inductive ZgL (CF CR cF:Addr) (vs:List V) (H:Hp) (Q:VK) (E:XK):Prop
  | mk (κ:KX) (s ta ca:Addr) (rs cas:List Addr) (A cs:List (List κ.F)) (m:Nat) (_:vs=[.ref s,.ref ta,.ref ca]) (_:KdX CF CR κ H s) (_:TabL κ H ta rs A m) (_:Zic κ H ca cas cs) (_:cs.length<=100) (_:(A.length≠m\/(∃c∈cs,c.length≠A.length)->E (.ref cF) none H)) (_:(A.length=m->(∀c∈cs,c.length=m)->m<=7/\(κ = .q->m<=3)/\AllR (Q12 κ) A/\AllR (Q12 κ) cs/\∀(H':Hp) (D:Addr) (rw:List Addr) (Rw:List (List κ.F)) (ls:List Nat),Same H H'->H D=none->H' D=some (.lst (rw.map V.ref))->RowsX κ H' rw Rw->(∀a∈rw,H a=none)->rw.Nodup->D∉rw->Rom A m cs Rw ls->Q (.ref D) H')):ZgL CF CR cF vs H Q E
end My
namespace My
open PySem L2 PyProof.Rows
section
variable{P:Program}{w:World}{K:PySem.W.Frag}{mg:Str->Option Value}{base:Heap}{CF CR cF:Addr}
theorem Zl9:FnScope ["kind", "table", "column"] ["kind", "table", "column"] (Zah ZhH):=‹2›
theorem Zk3(h:Here K mg "image" ZhH) (T:Nm mg) (c_NoFit:ExcC K mg "NoFit" cF) (h_sums_with:Has P w K mg base "sums_with" 4 ["kind", "table", "column"] (ZdS CF CR)):HasX P w K mg base "image" 5 ["kind", "table", "column"] (Zfu CF CR):=by
  refine h.hasX (λf fd F=>F.binds λ_ _ _ _ _ _ us hl=>by obtain ⟨_,_,_,rfl⟩:=Zew hl; exact rfl) λf fd F=>F.okx Zl9 (λvs H Q E h=>?_) (λcdv A outer s H vs Q E hr h=>?_)
  · obtain ⟨_,_,_,_,_,_,_,_,_,_,_,_,rfl,_⟩:=h
    rfl
  obtain ⟨κ,sk,a,c,rs,R,xs,f,D,E',M,N,rfl,hk,ta,cl,qR,qf,d0,dl,e0,el,ml,nl,k⟩:=h
  refine ⟨_,(Zab (ZaB (Zap ZeB (Zak Zai (by rfl) T.len boot_len (Zaa (pv 2) Zac)) (Zak Zai (by rfl) T.len boot_len (Zaa (Zam Zau (pv 1) Zad (λ_ _=>rfl)) Zac)) (Zas _)) (Zae (Zcq c_NoFit ZeX rfl (by rfl) (Zaa ZbC Zac))) Zat)
    (Zae (Zal (Zan h_sums_with hr (by rfl) (Zaa (pv 0) (Zaa (pv 1) (Zaa (pv 2) Zac))))))),?_⟩
  obtain ⟨a0,x0,f0,g0,r0,hx0,al0,l0⟩:=ta.fst
  have lx:=cl.al.1
  refine ⟨_,rfl,c,_,rfl,.inl (SqL.of cl.l),_,rfl,a,_,0,_,rfl,rfl,SqL.of ta.l,Zbi (i:=0) g0,a0,_,rfl,.inl (SqL.of hx0),rfl,_,rfl,?_⟩
  refine ZcL (λz=>absurd (show (xs.length:Int)=(x0.length:Int) by omega) z) λ_=>?_
  refine ⟨_,rfl,_,rfl,_,rfl,κ,sk,a,c,rs,R,xs,f,D,E',M,N,rfl,hk,ta.l,ta.r,ta.w,ta.n9,ta.m9,cl.l,cl.al,qR,qf,d0,dl,e0,el,ml,nl,k⟩
theorem ZfF:FnScope ["A", "column"] ["A", "column"] (Zah Zcu):=‹2›
theorem ZfG(h:Here K mg "need_column" Zcu) (T:Nm mg) (c_NoFit:ExcC K mg "NoFit" cF):HasX P w K mg base "need_column" 1 ["A", "column"] (Zcd cF):=by
  refine h.hasX (λf fd F=>F.binds λ_ _ _ _ _ _ us hl=>by obtain ⟨_,_,rfl⟩:=ZdJ hl; exact rfl) λf fd F=>F.okx ZfF (λvs H Q E h=>?_) (λcdv A outer s H vs Q E hr h=>?_)
  · obtain ⟨_,_,_,_,rfl,_⟩:=h
    rfl
  obtain ⟨a,c,as,xs,rfl,ha,hc,k1,k2⟩:=h
  refine ⟨_,(Zae (ZaB (Zap ZeB (Zak Zai (by rfl) T.len boot_len (Zaa (pv 1) Zac)) (Zak Zai (by rfl) T.len boot_len (Zaa (pv 0) Zac)) (Zas _)) (Zae (Zcq c_NoFit ZeX rfl (by rfl) (Zaa ZbC Zac))) Zat)),?_⟩
  refine ⟨_,rfl,c,_,rfl,.inl (SqL.of hc),_,rfl,a,_,rfl,.inl (SqL.of ha),rfl,_,rfl,?_⟩
  exact ZcL (λz=>⟨(by show 1<=1000; decide),k2 λe=>z (by rw[e])⟩) λz=>k1 ⋯
theorem sc_climbed:FnScope ["kind", "f", "A", "column", "current", "columns", "number"] ["kind", "f", "A", "column"] (Zah Ze0):=‹2›
theorem Zjw(h:Here K mg "climbed" Ze0) (Tv:mg "reversed" = none) (mn:ZcA P w K mg base CF CR) (h_plus_row:Has P w K mg base "plus_row" 5 ["kind", "row", "other"] (Zb1 CF CR)) (h_image:HasX P w K mg base "image" 5 ["kind", "table", "column"] (Zfu CF CR)) (h_scaled_row:Has P w K mg base "scaled_row" 5 ["kind", "number", "row"] (Zbe CF CR)):HasX P w K mg base "climbed" 6 ["kind", "f", "A", "column"] (Zeo CF CR):=by
  refine h.hasX (λf fd F=>F.binds λ_ _ _ _ _ _ us hl=>by obtain ⟨_,_,_,_,rfl⟩:=ZnV hl; exact rfl) λf fd F=>F.okx sc_climbed (λvs H Q E h=>?_) (λcdv A outer s H vs Q E hr h=>?_)
  · obtain ⟨_,_,_,_,_,_,_,_,_,_,_,rfl,_⟩:=h
    rfl
  obtain ⟨κ,sk,fa,ta,ca,fs,rs,A,xs,v,m,rfl,hk,cf,tb,lA,m7,qA,cv,lv,qv,k⟩:=h
  have nd:=sc_climbed.nd
  refine ⟨_,(Zab (Zcf (i:=4) ["each"] [(0, "kind")] nd rfl rfl rfl (ZaC (pv 3)) (by exact λ_ _ _ _=>(Zar (i:=0) (show (["each", "kind"]:List Str).Nodup by decide +kernel) rfl (Or.inl rfl))) (by exact λ_ _ _ _=>(Zkd ⟨rfl,rfl,rfl,rfl,rfl⟩ (pv 1) Zdl hr (Zaa Zad Zac))) ⟨⟨rfl,rfl,Or.inl rfl⟩,trivial⟩)
    (Zab (Zaj (i:=5) nd rfl (Or.inl rfl) (ZaQ Zac))
    (Zab (ZaI PassesOwn.leaving rfl (Zoo (by rfl) Tv (Zaa (pv 1) Zac)) (Zar (i:=6) nd rfl (Or.inl rfl)) (Zab (Zaj (i:=4) nd rfl (Or.inl rfl) (Zan h_plus_row hr (by rfl) (Zaa (pv 0) (Zaa (ZcN h_image ZhE hr (by rfl) (Zaa (pv 0) (Zaa (pv 2) (Zaa (pv 4) Zac)))) (Zaa (Zan h_scaled_row hr (by rfl) (Zaa (pv 0) (Zaa (pv 6) (Zaa (pv 3) Zac)))) Zac)))))
      (Zae (ZaE (ZeC PySem.F.plainAttrs_list PySem.F.slot_list_append PySem.F.type_list_append Za3 (pv 5) (Zaa (pv 4) Zac))))))
    (Zae (Zal (pv 5)))))),?_⟩
  have lx:=cv.al.1
  have lf:=cf.al.1
  rw[Zbp] at lf
  have aR:=ZkZ cf.al
  rw[ZnI] at aR
  refine ⟨_,rfl,ca,rfl,⟨_,SqL.of cv.l⟩,?_⟩
  refine ZaL (K:=K) (a:=ca) (xs:=xs) (λi ys H2=>Same H H2/\AllG (NR κ H2) ys (List.replicate i 0)) ⋯ ⟨Same.refl H,.nil⟩ (λi ys H2 _ q=>SqL.of (q.1 _ _ cv.l)) ?_ ?_
  · rintro i x ys H2 hx hl ⟨S4,e4⟩
    obtain ⟨Cn,dxn,fsn,psn,dvn,spn,k1,k2,k3,k4,rfl,k5⟩:=mn κ H2 sk (hk.same S4)
    refine ⟨_,rfl,sk,Cn,dxn,fsn,psn,_,spn,rfl,k1,k2,k3.mono ∅,k4,k5 H2 0 0 _ _ (Same.refl _) ZfA λv0 H3 S3 n0=>⟨S4.trans S3,?_⟩⟩
    rw[List.replicate_succ']
    exact (e4.mono λ_ _ n=>n.same S3).append (.one n0)
  rintro ys H1 hl ⟨S1,e1⟩ c0 nc0
  have Sc:=Zag nc0 (.lst ys)
  have qc:=Zaf (H:=H1) (a:=c0) (o:=.lst ys)
  generalize upd H1 c0 (.lst ys)=H2 at *
  have S02:=S1.trans Sc
  have cl0:ColL κ H2 c0 ys (ZnX A m v 0):=⟨qc,by rw[lx,lv] at e1; exact e1.mono λ_ _ n=>n.same Sc⟩
  refine ⟨(by show 0<=sizeLine; decide),λp np=>?_⟩
  have Sp:=Zag np (.lst [])
  have qp:=Zaf (H:=H2) (a:=p) (o:=.lst [])
  generalize upd H2 p (.lst [])=H3 at *
  have S03:=S02.trans Sp
  have np0:H p=none:=S02.free np
  refine ⟨_,rfl,fa,fs,rfl,SqL.of (S03 _ _ cf.l),?_⟩
  refine ZnA (xs:=fs) (λi σ H4=>∃(z6:Option V) (cc:Addr) (zs:List V) (cs:List Addr),σ=[some (.ref sk),some (.ref fa),some (.ref ta),some (.ref ca),some (.ref cc),some (.ref p),z6]/\Same H H4/\ColL κ H4 cc zs (ZnX A m v i)/\H4 p=some (.lst (cs.map V.ref))/\p∉cs/\RowsX κ H4 cs ((List.range i).map (wL A m v))) ⟨_,c0,ys,[],rfl,S03,cl0.same Sp,qp,(λz=>nomatch z),.nil⟩ ?_ ?_ ?_
  · rintro i σ H4-⟨z6,cc,zs,cs,rfl,S4,-⟩
    exact SqL.of (S4 _ _ cf.l)
  · rintro i y σ H4 hy ⟨z6,cc,zs,cs,rfl,S4,cl,hp,npc,rx⟩
    obtain ⟨q,hq,nq⟩:=aR.get hy
    have hi:i<m+1:=by
      have:=(Qk.mp hq).1
      rw[Zbp] at this; exact this
    have eq:q=(Rg.qz m (ent A)).c i:=by
      have:=ZeM (Rg.qz m (ent A)) hi
      rw[Q3,hq] at this
      exact this
    subst eq
    have lc:=Zl7 A m v i
    have qcu:=ZoU m7 qA qv i ⋯
    obtain ⟨b1,b2,b3⟩:=ZoW m7 qA qv (i:=i) ⋯
    refine ⟨_,rfl,_,rfl,_,rfl,_,rfl,κ,sk,ta,cc,rs,A,zs,ZnX A m v i,12,12^8,108,10^54,rfl,hk.same S4,(by rw[lc]; exact tb.same S4),cl,qA,qcu,∅,∅,∅,∅,∅,∅,λH5 D5 y5 S5 n5 h5 a5=>?_⟩
    have S05:=S4.trans S5
    refine ⟨_,rfl,_,rfl,_,rfl,κ,sk,ca,y,_,xs,v,rfl,hk.same S05,(nq.same S05),(cv.same S05).l,(cv.same S05).al,b1,b2,⋯,λH6 D6 y6 S6 n6 h6 a6=>?_⟩
    have S06:=S05.trans S6
    refine ⟨κ,sk,D5,D6,y5,y6,_,_,rfl,hk.same S06,S6 _ _ h5,h6,a5.mono λ_ _ n=>n.same S6,a6,ZoV m7 tb.w qA lc ∅ ∅ ∅ qcu,b3,by rw[Q1]; omega,λH7 D7 y7 S7 n7 h7 a7=>?_⟩
    rw[Zl8 lA tb.w lv i] at a7
    have S47:=S5.trans (S6.trans S7)
    have hp7:=S47 _ _ hp
    have lcs:=rx.1
    rw[Q1,Wd] at lcs
    refine ⟨_,rfl,.inl ⟨rfl,_,SqL.of hp7⟩,_,rfl,p,_,_,rfl,rfl,hp7,Q7 (show (cs.map V.ref).length<1000 by rw[Q1]; omega) ∅,?_⟩
    have O:Off [p] H7 (upd H7 p (.lst (cs.map V.ref++[V.ref D7]))):=ZaH (Same.refl H7)
    have nD7:D7≠p:=λz=>by
      rw[z,((S5.trans S6)) _ _ hp] at n7; cases n7
    have O8:=O D7 _ (λz=>nD7 (Q5.mp z)) h7
    have a8:=a7.mono λ_ _ n=>n.off hp7 O
    refine ⟨_,D7,y7,cs++[D7],rfl,Off.same O (S4.trans S47) (λz hz=>by rw[Q5.mp hz]; exact np0),⟨O8,a8⟩,by rw[Zaf,Qn]; rfl,?_,?_⟩
    · intro z
      rcases Qj.mp z with z | z
      · exact npc z
      · exact nD7 (Q5.mp z).symm
    · rw[List.range_succ,Qn]
      exact ((rx.same S47).off npc hp7 O).snoc O8 a8
  · rintro σ H4 ⟨z6,cc,zs,cs,rfl,S4,cl,hp,npc,rx⟩
    rw[lf] at rx
    exact ⟨_,rfl,k H4 p cs S4 hp rx⟩
theorem sc_filled_rows:FnScope ["kind", "table", "found"] ["kind", "table"] (Zah Zcv):=‹2›
theorem ZfH(h:Here K mg "filled_rows" Zcv) (T:Nm mg) (h_steps:Has P w K mg base "steps" 8 ["kind", "table"] (Zgs CF CR)):Has P w K mg base "filled_rows" 9 ["kind", "table"] (Zfv CF CR):=by
  refine h.has (λf fd F=>F.binds λ_ _ _ _ _ _ us hl=>by obtain ⟨_,_,rfl⟩:=ZdJ hl; exact rfl) λf fd F=>F.ok sc_filled_rows (λvs H Q E h=>?_) (λcdv A outer s H vs Q E hr h=>?_)
  · obtain ⟨_,_,_,_,_,_,rfl,_⟩:=h
    rfl
  obtain ⟨κ,sk,tb,rs,R0,m,rfl,hk,hT,rx,wd,n1,n13,m7,qt,k⟩:=h
  have nd:=sc_filled_rows.nd
  refine ⟨_,(Zab (Zaj (i:=2) nd rfl (Or.inl rfl) (Zan h_steps hr (by rfl) (Zaa (pv 0) (Zaa (pv 1) Zac))))
    (Zae (Zal (Zbl ZbQ (Zam Zaq (pv 2) Zad (λ_ _=>rfl)) Zcm (Zbs (Zak Zai (by rfl) T.len boot_len (Zaa (Zam Zaq (pv 2) Zad (λ_ _=>rfl)) Zac))))))),?_⟩
  refine ⟨_,rfl,_,rfl,κ,sk,tb,rs,R0,m,rfl,hk,hT,rx,wd,n1,n13,m7,qt,λH1 t D u L rs' tvs ts ls S1 ht hD rx1 hu at1 hL okT _ _ ech nD nu nL nrs ndr nin ndu ndl nul=>?_⟩
  have le:=ech.le
  refine ⟨_,rfl,t,_,0,_,rfl,rfl,SqT.of ht,rfl,_,rfl,t,_,2,_,rfl,rfl,SqT.of ht,rfl,L,_,rfl,.inl (SqL.of hL),_,rfl,D,_,rfl,SqL.of hD,λp np=>?_⟩
  have ec:ZeT (rs'.map V.ref) none (some ((ls.map λ(i:Nat)=>V.int (i:Int)).length:Int))=(rs'.take ls.length).map V.ref:=by
    rw[Q1,Uo]; exact ZdO _ _
  rw[ec]
  have Sp:=Zag np (.lst ((rs'.take ls.length).map V.ref))
  refine k _ p (rs'.take ls.length) ts ls (S1.trans Sp) Zaf ((rx1.same Sp).take ls.length) okT ech (S1.free np) (λa ha=>nrs a (Wl ha)) (ndr.sublist (List.take_sublist _ _)) λz=>?_
  obtain ⟨i,hi,e⟩:=Wg (Wl z)
  obtain ⟨xs,hx,_⟩:=rx1.2 i p _ (by rw[<-e]; exact Q2 hi) (Q2 (by rw[<-rx1.1]; exact hi))
  rw[np] at hx; cases hx
theorem sc_room:FnScope ["kind", "A", "columns", "column", "whole", "rows"] ["kind", "A", "columns"] (Zah Zkj):=‹2›
theorem ZnJ(h:Here K mg "room" Zkj) (T:Nm mg) (h_need_square:HasX P w K mg base "need_square" 9 ["table"] (Zbo cF)) (h_need_column:HasX P w K mg base "need_column" 9 ["A", "column"] (Zcd cF)) (h_great:HasX P w K mg base "great" 9 ["kind", "A"] (ZgI CF CR cF)) (h_climbed:HasX P w K mg base "climbed" 9 ["kind", "f", "A", "column"] (Zeo CF CR)) (h_filled_rows:Has P w K mg base "filled_rows" 9 ["kind", "table"] (Zfv CF CR)):HasX P w K mg base "room" 10 ["kind", "A", "columns"] (ZgL CF CR cF):=by
  refine h.hasX (λf fd F=>F.binds λ_ _ _ _ _ _ us hl=>by obtain ⟨_,_,_,rfl⟩:=Zew hl; exact rfl) λf fd F=>F.okx sc_room (λvs H Q E h=>?_) (λcdv A outer s H vs Q E hr h=>?_)
  · obtain ⟨_,_,_,_,_,_,_,_,_,rfl,_⟩:=h
    rfl
  obtain ⟨κ,sk,ta,ca,rs,cas,A,cs,m,rfl,hk,tb,⟨hC,rxC⟩,n100,kF,kS⟩:=h
  have nd:=sc_room.nd
  refine ⟨_,(Zab (ZaE (ZcN h_need_square ZhE hr (by rfl) (Zaa (pv 1) Zac)))
    (Zab (ZaI PassesOwn.leaving rfl (ZaC (pv 2)) (Zar (i:=3) nd rfl (Or.inl rfl)) (Zae (ZaE (ZcN h_need_column ZhE hr (by rfl) (Zaa (pv 1) (Zaa (pv 3) Zac))))))
    (Zab (Zaj (i:=4) nd rfl (Or.inl rfl) (ZcN h_great ZhE hr (by rfl) (Zaa (pv 0) (Zaa (pv 1) Zac))))
    (Zab (Zaj (i:=5) nd rfl (Or.inl rfl) (ZaQ Zac))
    (Zab (ZaI PassesOwn.leaving rfl (ZaC (pv 2)) (Zar (i:=3) nd rfl (Or.inl rfl)) (Zae (ZaB (Zap ZdW (Zak Zai (by rfl) T.len boot_len (Zaa (pv 5) Zac)) (Zak Zai (by rfl) T.len boot_len (Zaa (pv 1) Zac)) (Zas _)) (Zae (Zaj (i:=5) nd rfl (Or.inl rfl) (Zan h_filled_rows hr (by rfl) (Zaa (pv 0) (Zaa (Zao Zit (pv 5) (Zbl ZbQ (ZcN h_climbed ZhE hr (by rfl) (Zaa (pv 0) (Zaa (pv 4) (Zaa (pv 1) (Zaa (pv 3) Zac))))) Zcm (Zbs (ZgQ Zet Zad)))) Zac))))) Zat)))
    (Zae (Zal (pv 5)))))))),?_⟩
  have lC:=rxC.1
  have lr:=tb.r.1
  refine ⟨_,rfl,κ,ta,rs,A,m,rfl,tb,(λsq=>?_),λns=>kF (.inl ns)⟩
  refine ⟨_,rfl,ca,rfl,⟨_,SqL.of hC⟩,?_⟩
  refine Za8 (K:=K) (a:=ca) (xs:=cas.map V.ref) (λi σ H2=>∃z3:Option V,σ=[some (.ref sk),some (.ref ta),some (.ref ca),z3,none,none]/\H=H2/\∀c∈cs.take i,c.length=m) ⟨_,rfl,rfl,λc hc=>by rw[W9] at hc; cases hc⟩ ?_ ?_ ?_
  · rintro i σ H2-⟨z3,rfl,rfl,-⟩
    exact SqL.of hC
  · rintro i v σ H2 hv ⟨z3,rfl,rfl,fit⟩
    obtain ⟨b,hb,rfl⟩:=Zaw hv
    obtain ⟨c,hc⟩:=Zax hb lC
    obtain ⟨ws,hw,aw⟩:=rxC.2 i b c hb hc
    refine ⟨_,rfl,_,rfl,ta,b,_,ws,rfl,tb.l,hw,(λe=>?_),λne=>kF (.inr ⟨c,Q8 hc,λz=>ne (by rw[aw.1,Q1,lr]; exact z)⟩)⟩
    rw[aw.1,Q1,lr,sq] at e
    refine ⟨_,rfl,rfl,λc' hc'=>?_⟩
    rw[Qq,hc] at hc'
    rcases Qj.mp hc' with z | z
    · exact fit c' z
    · rw[Q5.mp z]; exact e
  rintro σ H2 ⟨z3,rfl,rfl,fit⟩
  rw[Q1,lC,Qz] at fit
  obtain ⟨m7,m3,qA,qC,k⟩:=kS sq fit
  refine ⟨_,rfl,_,rfl,κ,sk,ta,rs,A,m,rfl,hk,tb,(λns=>absurd sq ns),λ_=>⟨m7,⟨12,108,∅,∅,∅,qA⟩,λH1 W ys S1 nW hW aW=>?_⟩⟩
  refine ⟨(by show 0<=sizeLine; decide),λp np=>?_⟩
  have Sp:=Zag np (.lst [])
  have qp:=Zaf (H:=H1) (a:=p) (o:=.lst [])
  generalize upd H1 p (.lst [])=H3 at *
  have S03:=S1.trans Sp
  refine ⟨_,rfl,ca,rfl,⟨_,SqL.of (S03 _ _ hC)⟩,?_⟩
  refine Za8 (K:=K) (a:=ca) (xs:=cas.map V.ref) (λi σ H4=>∃(z3:Option V) (D:Addr) (rw:List Addr) (Rw:List (List κ.F)) (ls:List Nat),σ=[some (.ref sk),some (.ref ta),some (.ref ca),z3,some (.ref W),some (.ref D)]/\Same H3 H4/\H D=none/\H4 D=some (.lst (rw.map V.ref))/\RowsX κ H4 rw Rw/\(∀a∈rw,H a=none)/\rw.Nodup/\D∉rw/\Rom A m (cs.take i) Rw ls) ⟨_,p,[],[],[],rfl,Same.refl _,S1.free np,qp,.nil,(λa h=>nomatch h),List.nodup_nil,(λh=>nomatch h),by rw[W9]; exact Rom.nil⟩ ?_ ?_ ?_
  · rintro i σ H4-⟨z3,D,rw,Rw,ls,rfl,S4,-⟩
    exact SqL.of ((S03.trans S4) _ _ hC)
  · rintro i v σ H4 hv ⟨z3,D,rw,Rw,ls,rfl,S4,nD,hD,rx,nrw,ndw,nDw,ro⟩
    obtain ⟨b,hb,rfl⟩:=Zaw hv
    obtain ⟨c,hc⟩:=Zax hb lC
    obtain ⟨ws,hw,aw⟩:=rxC.2 i b c hb hc
    have mc:=Q8 hc
    have S04:=S03.trans S4
    have lw:=rx.1
    have lls:=ro.e.lc
    have ll:=ro.l
    have tk:cs.take (i+1)=cs.take i++[c]:=by rw[Qq,hc]; rfl
    refine ⟨_,rfl,D,_,rfl,.inl (SqL.of hD),_,rfl,ta,_,rfl,.inl (SqL.of (S04 _ _ tb.l)),_,_,rfl,rfl,_,rfl,?_⟩
    rw[Q1,Q1,lr,sq,lw]
    refine Zbq (λz=>?_) (λz=>?_)
    · have z:(Rw.length:Int)<(m:Int):=z
      refine ⟨_,rfl,_,rfl,_,rfl,_,rfl,_,rfl,_,rfl,κ,sk,W,ta,b,ys,rs,A,ws,c,m,rfl,hk.same S04,⟨(Sp.trans S4) _ _ hW,aW.mono λ_ _ n=>n.same (Sp.trans S4)⟩,tb.same S04,sq,m7,qA,⟨S04 _ _ hw,aw.mono λ_ _ n=>n.same S04⟩,fit c mc,qC c mc,λH5 D5 as5 S5 h5 r5=>?_⟩
      have l5:=r5.1
      rw[Q1,Wd] at l5
      refine ⟨_,rfl,_,rfl,D5,_,rfl,SqL.of h5,λp6 n6=>?_⟩
      have ec:ZeT (as5.map V.ref) none (some (-1))=(as5.take m).map V.ref:=by
        rw[ZoT,Q1,l5,Nat.add_sub_cancel,Uo]
      rw[show ZeT (as5.map V.ref) none (some (-(1:Int)))=(as5.take m).map V.ref from ec]
      have S6:=Zag n6 (.lst ((as5.take m).map V.ref))
      have q6:=Zaf (H:=H5) (a:=p6) (o:=.lst ((as5.take m).map V.ref))
      generalize upd H5 p6 (.lst ((as5.take m).map V.ref))=H6 at *
      have S46:=S5.trans S6
      refine ⟨D,p6,_,_,rfl,rfl,S46 _ _ hD,q6,?_,λp7 n7=>?_⟩
      · rw[Q1,Q1,Qi]
        exact Q0 (show rw.length+min m as5.length<=1000 by omega) ∅
      have e7:rw.map V.ref++(as5.take m).map V.ref=(rw++as5.take m).map V.ref:=Qn.symm
      rw[e7]
      have S7:=Zag n7 (.lst ((rw++as5.take m).map V.ref))
      have q7:=Zaf (H:=H6) (a:=p7) (o:=.lst ((rw++as5.take m).map V.ref))
      generalize upd H6 p7 (.lst ((rw++as5.take m).map V.ref))=H7 at *
      have S47:=S46.trans S7
      have S07:=S04.trans S47
      have r7:RowsX κ H7 (rw++as5.take m) (Zdf A m Rw c):=by
        have t5:=(r5.take m).same (S6.trans S7)
        rw[<-Uo,List.take_range,Nat.min_eq_left (Ut m)] at t5
        exact (rx.same S47).cat t5
      have lst:=Zhr A m Rw c
      have qtt:=ro.qt m3 m7 qA (λc' hc'=>qC c' (Wl hc')) (qC c mc)
      refine ⟨κ,sk,p7,_,Zdf A m Rw c,m,rfl,hk.same S07,q7,r7,ZdU ro.w c,⋯,⋯,m7,qtt,λH8 D8 rs8 ts ls8 S8 h8 r8 ok8 ech8 nD8 nr8 nd8 nn8=>?_⟩
      have fr:∀a,H7 a=none->H a=none:=λa ha=>S07.free ha
      refine ⟨_,D8,rs8,_,ls8,rfl,S47.trans S8 |> S4.trans,fr D8 nD8,h8,r8,λa ha=>fr a (nr8 a ha),nd8,nn8,?_⟩
      rw[tk]
      exact ro.step ok8 ech8
    · have z:¬(Rw.length:Int)<(m:Int):=z
      refine ⟨_,D,rw,Rw,ls,rfl,S4,nD,hD,rx,nrw,ndw,nDw,?_⟩
      rw[tk]
      exact ro.full ⋯ c
  · rintro σ H4 ⟨z3,D,rw,Rw,ls,rfl,S4,nD,hD,rx,nrw,ndw,nDw,ro⟩
    rw[Q1,lC,Qz] at ro
    exact ⟨_,rfl,k H4 D rw Rw ls (S03.trans S4) nD hD rx nrw ndw nDw ro⟩
end
end My
namespace My
open PySem L2 PyProof.Rows
inductive Zb5 (K:PySem.W.Frag) (vs:List V) (H:Hp) (Q:VK) (zE:XK):Prop
  | mk (a:Addr) (cs:List Int) (i:Int) (_:vs=[.ref a,.int i]) (_:SqL K H a (cs.map V.int)) (_:0<=i) (_:∀c:Int,Q (.int c) H):Zb5 K vs H Q zE
inductive ZdA (vs:List V) (H:Hp) (Q:VK) (zE:XK):Prop
  | mk (κ:KX) (c:Int) (_:vs=[.int κ.P,.int c]) (_:∀H' (n:Nat),Same H H'->1<=n->n<=7->(κ = .q->n<=3)->Q (.int (n:Int)) H'):ZdA vs H Q zE
inductive Zc1 (vs:List V) (H:Hp) (Q:VK) (zE:XK):Prop
  | mk (κ:KX) (ca:Addr) (cs:List Int) (i:Int) (n m:Nat) (_:vs=[.int κ.P,.ref ca,.int i,.int (n:Int),.int (m:Int)]) (_:H ca=some (.lst (cs.map V.int))) (_:0<=i) (_:i<=1000) (_:n<=7) (_:m<=7) (_:∀H' D rs (R:List (List κ.F)),Same H H'->H' D=some (.lst (rs.map V.ref))->RowsX κ H' rs R->R.length=n->Wid m R->AllR (QN κ ((12:Nat):Int) 108) R->(∀a∈rs,H a=none)->rs.Nodup->Q (.ref D) H'):Zc1 vs H Q zE
inductive Zep (vs:List V) (H:Hp) (Q:VK) (zE:XK):Prop
  | mk (κ:KX) (ta ca:Addr) (rs:List Addr) (R:List (List κ.F)) (xs:List V) (c:List κ.F) (D M:Nat) (_:vs=[.int κ.P,.ref ta,.ref ca]) (_:H ta=some (.lst (rs.map V.ref))) (_:RowsX κ H rs R) (_:Wid c.length R) (_:R.length<=7) (_:c.length<=7) (_:H ca=some (.lst xs)) (_:AllG (NR κ H) xs c) (_:AllR (QN κ ((12:Nat):Int) 108) R) (_:(∀x∈c,QN κ (D:Int) M x)) (_:0<D) (_:D<=10^50) (_:M<=10^50) (_:∀H' E ys,Same H H'->H E=none->H' E=some (.lst ys)->AllG (NR κ H') ys (Zib R c)->Q (.ref E) H'):Zep vs H Q zE
end My
namespace My
open PySem L2 PyProof.Rows
section
variable{P:Program}{w:World}{K:PySem.W.Frag}{mg:Str->Option Value}{base:Heap}
theorem sc_l_fraction:FnScope ["_law_top", "_law_bottom", "_law_by"] ["_law_top", "_law_bottom"] (Zah ZcU):=‹2›
theorem Zk4(h:Here K mg "_law_fraction" ZcU) (h_l_divisor:Has P w K mg base "_law_divisor" 1 ["_law_one", "_law_other"] ZaP):Has P w K mg base "_law_fraction" 2 ["_law_top", "_law_bottom"] Zfj:=by
  refine h.has (λf fd F=>F.binds λ_ _ _ _ _ _ us hl=>by obtain ⟨_,_,rfl⟩:=ZdJ hl; exact rfl) λf fd F=>F.ok sc_l_fraction (λvs H Q E h=>?_) (λcdv A outer s H vs Q E hr h=>?_)
  · obtain ⟨_,_,rfl,_⟩:=h
    rfl
  obtain ⟨t,b,rfl,hb,fb,k⟩:=h
  have nd:=sc_l_fraction.nd
  refine ⟨_,(Zab (Zaj (i:=2) nd rfl (Or.inl rfl) (Zan h_l_divisor hr (by rfl) (Zaa (pv 0) (Zaa (pv 1) Zac))))
    (Zae (Zal (Za2 (Zaa (Zao Ziy (pv 0) (pv 2)) (Zaa (Zao Ziy (pv 1) (pv 2)) Zac)))))),?_⟩
  refine ⟨_,rfl,_,rfl,t,b,rfl,?_⟩
  have hg:=M3.gcd_ne (a:=t) (b:=b) ⋯
  have gl:Int.gcd t b<=b.natAbs:=U2 ⋯ (U3.mpr (W4 t b))
  have hg1:(Int.gcd t b:Int)≠0/\Bits 8000 (Int.gcd t b:Int):=⟨⋯,fb.le (by rw[Qy]; exact gl)⟩
  obtain ⟨e1,e2⟩:=Zqo (t:=t) hb
  refine ⟨_,rfl,_,rfl,_,_,rfl,rfl,hg1,_,rfl,_,rfl,_,_,rfl,rfl,hg1,(by show 2<=sizeLine; decide),λr hr'=>?_⟩
  have:=k r hr'
  rw[<-e1,<-e2] at this
  exact this
end
section
variable{P:Program}{w:World}{K:PySem.W.Frag}{mg:Str->Option Value}{base:Heap}
theorem sc_l_prime:FnScope ["_law_number"] ["_law_number"] (Zah Ze4):=‹2›
theorem Zid(h:Here K mg "_law_prime" Ze4) (h_l_is_prime:Has P w K mg base "_law_is_prime" 1 ["_law_number"] ZdL):Has P w K mg base "_law_prime" 2 ["_law_number"] Zdv:=by
  refine h.has (λf fd F=>F.binds λ_ _ _ _ _ _ us hl=>by obtain ⟨_,rfl⟩:=Zlz hl; exact rfl) λf fd F=>F.ok sc_l_prime (λvs H Q E h=>?_) (λcdv A outer s H vs Q E hr h=>?_)
  · obtain ⟨_,rfl,_⟩:=h
    rfl
  obtain ⟨n,rfl,n2,n9,k⟩:=h
  have nd:=sc_l_prime.nd
  refine ⟨_,(Zab (ZbN PassesOwn.never (ZbD (ZaY (Zan h_l_is_prime hr (by rfl) (Zaa (pv 0) Zac)))) (Zae (Zaj (i:=0) nd rfl (Or.inl rfl) (Zao Za0 (pv 0) Zad))))
    (Zae (Zal (pv 0)))),?_⟩
  refine ⟨λmm σ H'=>∃t:Int,mm=(999983-t).toNat/\σ=[some (.int t)]/\H'=H/\2<=t/\t<=999983,⟨_,n,rfl,rfl,rfl,⋯,⋯⟩,?_⟩
  rintro mm σ H' ⟨t,rfl,rfl,rfl,h2,ht⟩
  refine ⟨_,rfl,t,rfl,⋯,λhp=>⟨_,rfl,?_⟩,λhp=>⟨_,rfl,?_⟩⟩
  · refine Zc7 ?_
    exact ⟨_,rfl,k t (.inr ⟨hp,⋯⟩)⟩
  · refine ZjY ?_
    refine ⟨_,λ_ _ h=>h,?_⟩
    have hne:t≠999983:=λz=>hp (by rw[z]; exact M2.prm_big)
    refine ⟨_,rfl,_,_,rfl,rfl,?_⟩
    exact ⟨_,⋯,t+1,rfl,rfl,rfl,⋯,⋯⟩
theorem ZgM:FnScope ["_law_cell"] ["_law_cell"] (Zah ZcT):=‹2›
theorem ZgN(h:Here K mg "_law_prime_by" ZcT) (h_l_prime:Has P w K mg base "_law_prime" 2 ["_law_number"] Zdv):Has P w K mg base "_law_prime_by" 3 ["_law_cell"] ZcC:=by
  refine h.has (λf fd F=>F.binds λ_ _ _ _ _ _ us hl=>by obtain ⟨_,rfl⟩:=Zlz hl; exact rfl) λf fd F=>F.ok ZgM (λvs H Q E h=>?_) (λcdv A outer s H vs Q E hr h=>?_)
  · obtain ⟨_,rfl,_⟩:=h
    rfl
  obtain ⟨c,rfl,k⟩:=h
  refine ⟨_,(Zab (ZaB (Zap Za9 (Zao ZbX (pv 0) Zad) Zad (Zas _)) (Zae (Zal Zad)) Zat)
    (Zab (ZaB (Zap Za9 (Zao ZbX (pv 0) Zad) Zad (Zas _)) (Zae (Zal (Zam Zau (ZaQ (Zaa Zad (Zaa Zad (Zaa Zad (Zaa Zad (Zaa Zad (Zaa Zad Zac))))))) (Zao ZbX (Zao Zb6 (pv 0) Zad) Zad) (λ_ _=>rfl)))) Zat)
    (Zae (Zal (Zan h_l_prime hr (by rfl) (Zaa (Zao Za0 Zad (Zao ZbX (Zao Zn7 (Zao Zb6 (pv 0) Zad) Zad) Zad)) Zac)))))),?_⟩
  refine ⟨_,rfl,_,_,rfl,rfl,(by show (0:Int)<_; decide),rfl,_,rfl,?_⟩
  refine Zbr (λ_=>k H 0 (Same.refl H) (.inl rfl)) (λ_=>?_)
  refine ⟨_,rfl,_,_,rfl,rfl,(by show (0:Int)<_; decide),rfl,_,rfl,?_⟩
  refine Zbr (λ_=>?_) (λ_=>?_)
  · obtain ⟨m,am,pm⟩:=Zpw c
    refine ⟨(by show 6<=sizeLine; decide),λq hq=>?_⟩
    refine ⟨_,rfl,_,_,rfl,rfl,⟨∅,∅⟩,_,_,rfl,rfl,(by show (0:Int)<_; decide),_,_,_,_,rfl,rfl,SqL.of Zaf,am,?_⟩
    exact k _ m (Zag hq _) pm
  · refine ⟨_,rfl,_,_,rfl,rfl,⟨∅,∅⟩,_,_,rfl,rfl,.inr ⟨∅,∅⟩,_,_,rfl,rfl,(by show (0:Int)<_; decide),_,_,rfl,rfl,_,rfl,?_,?_,λp pp=>k H p (Same.refl H) pp⟩
    · show (2:Int)<=2+c/3*48271%999982
      omega
    · show 2+c/3*48271%999982<=(999983:Int)
      omega
theorem Zk5:FnScope ["_law_prime_here", "_law_number"] ["_law_prime_here", "_law_number"] (Zah Zf7):=‹2›
theorem Zk6(h:Here K mg "_law_make" Zf7):Has P w K mg base "_law_make" 1 ["_law_prime_here", "_law_number"] Zbj:=by
  refine h.has (λf fd F=>F.binds λ_ _ _ _ _ _ us hl=>by obtain ⟨_,_,rfl⟩:=ZdJ hl; exact rfl) λf fd F=>F.ok Zk5 (λvs H Q E h=>?_) (λcdv A outer s H vs Q E hr h=>?_)
  · obtain ⟨_,_,_,rfl,_⟩:=h
    rfl
  obtain ⟨κ,t,x,rfl,nx,k⟩:=h
  refine ⟨_,(Zab (ZaB (Zap Za9 (pv 0) Zad (Zas _)) (Zae (Zal (Za2 (Zaa (pv 1) (Zaa Zad Zac))))) Zat)
    (Zae (Zal (Zao Za1 (pv 1) (pv 0))))),?_⟩
  refine ⟨_,rfl,rfl,_,rfl,?_⟩
  cases κ with
  | r p hp =>
    have h2:=hp.two
    refine Zkw (show (KX.r p hp).P≠0 by have:0<(KX.r p hp).P:=Zkv; omega) ⟨_,rfl,_,rfl,_,_,rfl,rfl,(show (p:Int)≠0 by omega),k H _ (Same.refl H) ?_⟩
    show V.int (t.fmod p)=V.int x.val
    have e:(Fin.val x:Int)=t%p:=nx.2
    rw[W5 _ ⋯,e]
  | q =>
    refine ZhT (show KX.q.P=0 from rfl) ⟨_,rfl,(by show 2<=sizeLine; decide),λr nr=>?_⟩
    refine k _ _ (Zag nr _) ⟨r,rfl,?_⟩
    have e1:Rat.num x=t:=nx.1
    have e2:Rat.den x=1:=nx.2
    rw[Zaf,e1,e2]; rfl
theorem ZfI:FnScope ["_law_prime_here", "_law_found"] ["_law_prime_here", "_law_found"] (Zah Zcw):=‹2›
theorem ZfJ(h:Here K mg "_law_is_number" Zcw) (T:Nm mg) (h_l_whole:Has P w K mg base "_law_whole" 1 ["_law_found"] ZdK) (h_l_divisor:Has P w K mg base "_law_divisor" 1 ["_law_one", "_law_other"] ZaP):Has P w K mg base "_law_is_number" 2 ["_law_prime_here", "_law_found"] Zc0:=by
  refine h.has (λf fd F=>F.binds λ_ _ _ _ _ _ us hl=>by obtain ⟨_,_,rfl⟩:=ZdJ hl; exact rfl) λf fd F=>F.ok ZfI (λvs H Q E h=>?_) (λcdv A outer s H vs Q E hr h=>?_)
  · obtain ⟨_,_,_,rfl,_⟩:=h
    rfl
  obtain ⟨κ,u,x,rfl,nu,k⟩:=h
  refine ⟨_,(Zab (ZaB (Zap ZiY (pv 0) Zad (Zas _)) (Zae (Zal (ZfO (Zan h_l_whole hr (by rfl) (Zaa (pv 1) Zac)) (ZfN (Zll Zlk ZdW Zad (pv 1) (pv 0)))))) Zat)
    (Zab (ZaB (Zdj (ZbD (ZaY (Zak Zaz (by rfl) T.isinstance boot_isinstance (Zaa (pv 1) (Zaa (Zg2 (by rfl) T.tuple boot_tuple) Zac))))) (Zdj (Zap ZeB (Zak Zai (by rfl) T.len boot_len (Zaa (pv 1) Zac)) Zad (Zas _)) (Zdj (ZbD (ZaY (Zan h_l_whole hr (by rfl) (Zaa (Zam Zaq (pv 1) Zad (λ_ _=>rfl)) Zac)))) (ZdE (ZbD (ZaY (Zan h_l_whole hr (by rfl) (Zaa (Zam Zaq (pv 1) Zad (λ_ _=>rfl)) Zac)))))))).pt (Zae (Zal Zcj)) Zat)
    (Zae (Zal (ZfO (Zbk ZiY (Zam Zaq (pv 1) Zad (λ_ _=>rfl)) Zad (Zas _)) (ZfN (Zbk Za9 (Zan h_l_divisor hr (by rfl) (Zaa (Zam Zaq (pv 1) Zad (λ_ _=>rfl)) (Zaa (Zam Zaq (pv 1) Zad (λ_ _=>rfl)) Zac))) Zad (Zas _)))))))),?_⟩
  refine ⟨_,rfl,_,_,rfl,rfl,_,rfl,?_⟩
  cases κ with
  | r p hp =>
    have nu:u = .int x.val:=nu
    subst nu
    have xl:=x.isLt
    exact Zcy (show (0:Int)<(KX.r p hp).P from Zkv) ⟨_,rfl,_,rfl,_,rfl,ZjY ⟨_,rfl,_,_,rfl,rfl,_,rfl,Zcy (show (0:Int)<=x.val by omega) ⟨_,rfl,_,_,rfl,rfl,Zmq (show (x.val:Int)<(p:Int) by omega) k⟩⟩⟩
  | q =>
    obtain ⟨a,rfl,ha⟩:=nu
    have fx:=Za6 x
    refine ZcW (show ¬(0:Int)<0 by decide) ?_
    refine ⟨_,rfl,_,_,_,_,rfl,.of (.tup ha),.ty (ZdG K _),_,rfl,Zc7 ?_⟩
    refine ⟨_,rfl,a,_,rfl,.inr (SqT.of ha),rfl,_,rfl,ZcL (λz=>absurd rfl z) (λ_=>?_)⟩
    refine ⟨_,rfl,a,_,0,_,rfl,rfl,SqT.of ha,rfl,_,rfl,_,rfl,Zc7 ?_⟩
    refine ⟨_,rfl,a,_,1,_,rfl,rfl,SqT.of ha,rfl,_,rfl,_,rfl,Zc7 ?_⟩
    refine ⟨_,rfl,a,_,1,_,rfl,rfl,SqT.of ha,rfl,_,_,rfl,rfl,_,rfl,Zcy (show (0:Int)<x.den from fx.pos) ?_⟩
    refine ⟨_,rfl,a,_,0,_,rfl,rfl,SqT.of ha,rfl,_,rfl,a,_,1,_,rfl,rfl,SqT.of ha,rfl,_,_,rfl,rfl,Zmq (show V.int ((Int.gcd x.num x.den:Nat):Int)=V.int 1 by rw[fx.cop]; rfl) k⟩
end
inductive Zfw (CF CR:Addr) (vs:List V) (H:Hp) (Q:VK) (zE:XK):Prop
  | mk (p:Int) (_:vs=[.int p]) (_:PK p) (_:∀(H':Hp) (k:Addr),Same H H'->KdA CF CR p H' k->Q (.ref k) H'):Zfw CF CR vs H Q zE
section
variable{P:Program}{w:World}{K:PySem.W.Frag}{mg:Str->Option Value}{base:Heap}{CF CR cN:Addr}
theorem Zk7:FnScope ["_law_prime_here"] ["_law_prime_here"] (Zah Zf6):=‹2›
theorem Zk8(h:Here K mg "_law_kind" Zf6) (kd:Kd K mg CF CR) (hI:HasI P w K mg base CR 2 ["self", "prime"] (Zgd CR)):Has P w K mg base "_law_kind" 4 ["_law_prime_here"] (Zfw CF CR):=by
  refine h.has (λf fd F=>F.binds λ_ _ _ _ _ _ us hl=>by obtain ⟨_,rfl⟩:=Zlz hl; exact rfl) λf fd F=>F.ok Zk7 (λvs H Q E h=>?_) (λcdv A outer s H vs Q E hr h=>?_)
  · obtain ⟨_,rfl,_⟩:=h
    rfl
  obtain ⟨p,rfl,hp,k⟩:=h
  refine ⟨_,(Zab (ZaB (Zap Za9 (pv 0) Zad (Zas _)) (Zae (Zal (Zj0 kd.mkF (by rfl) kd.mgF))) Zat)
    (Zae (Zal (Zls hI hr (by rfl) kd.mgR (Zaa (pv 0) Zac))))),?_⟩
  refine ⟨_,rfl,rfl,_,rfl,?_⟩
  refine Zbr (λz=>?_) (λz=>?_)
  · intro f0 df0 nf0 ndf0 nef0
    refine k _ f0 (λb o e=>?_) (.inl ⟨z,df0,Zaf⟩)
    rw[Zav (ZaD e nf0),Zav (ZaD e ndf0)]; exact e
  · rcases hp with rfl | ⟨pr1,lp1⟩
    · exact absurd rfl z
    refine ⟨_,rfl,λx1 dx1 nx1 ndx1 nex1=>⟨x1,dx1,p,rfl,Zaf,pr1,lp1,rfl,?_⟩⟩
    refine k _ x1 (λb o e=>?_) (.inr ⟨pr1,lp1,dx1,Zaf⟩)
    rw[Zav (ZaD e nx1),Zav (ZaD e nx1),Zav (ZaD e ndx1)]; exact e
end
section
variable{P:Program}{w:World}{K:PySem.W.Frag}{mg:Str->Option Value}{base:Heap}
theorem Zjx:FnScope ["_law_prime_here", "_law_one", "_law_other"] ["_law_prime_here", "_law_one", "_law_other"] (Zah Ze5):=‹2›
theorem Zie(h:Here K mg "_law_times" Ze5) (h_l_fraction:Has P w K mg base "_law_fraction" 2 ["_law_top", "_law_bottom"] Zfj):Has P w K mg base "_law_times" 3 ["_law_prime_here", "_law_one", "_law_other"] (Zbf λ_ x y=>x*y):=by
  refine h.has (λf fd F=>F.binds λ_ _ _ _ _ _ us hl=>by obtain ⟨_,_,_,rfl⟩:=Zew hl; exact rfl) λf fd F=>F.ok Zjx (λvs H Q E h=>?_) (λcdv A outer s H vs Q E hr h=>?_)
  · obtain ⟨_,_,_,_,_,rfl,_⟩:=h
    rfl
  obtain ⟨κ,u,v,x,y,rfl,nx,ny,bx,by',k⟩:=h
  refine ⟨_,(Zab (ZaB (Zap Za9 (pv 0) Zad (Zas _)) (Zae (Zal (Zan h_l_fraction hr (by rfl) (Zaa (Zao ZaA (Zam Zaq (pv 1) Zad (λ_ _=>rfl)) (Zam Zaq (pv 2) Zad (λ_ _=>rfl))) (Zaa (Zao ZaA (Zam Zaq (pv 1) Zad (λ_ _=>rfl)) (Zam Zaq (pv 2) Zad (λ_ _=>rfl))) Zac))))) Zat)
    (Zae (Zal (Zao Za1 (Zao ZaA (pv 1) (pv 2)) (pv 0))))),?_⟩
  refine ⟨_,rfl,rfl,_,rfl,?_⟩
  cases κ with
  | q =>
    obtain ⟨a,rfl,ha⟩:=nx
    obtain ⟨b,rfl,hb⟩:=ny
    refine ZhT (show KX.q.P=0 from rfl) ?_
    have px:=(Za6 x).pos
    have py:=(Za6 y).pos
    refine ⟨_,rfl,a,_,0,_,rfl,rfl,SqT.of ha,rfl,_,rfl,b,_,0,_,rfl,rfl,SqT.of hb,rfl,_,_,rfl,rfl,bx.1.mulT by'.1,_,rfl,a,_,1,_,rfl,rfl,SqT.of ha,rfl,_,rfl,b,_,1,_,rfl,rfl,SqT.of hb,rfl,_,_,rfl,rfl,(bx.2.up ∅).mulG by'.2,_,_,rfl,Qp px py,(bx.2.times by'.2),λr hr'=>?_⟩
    have e:x*y=Rat.divInt (x.num*y.num) ((x.den:Int)*y.den):=by
      rw[<-Wo,Qv,Qv]
    refine k _ _ (Zag hr' _) ⟨r,rfl,?_⟩
    rw[Zaf]
    show _=some (HO.tup [.int (x*y).num,.int ((x*y).den:Int)])
    rw[e]
  | r p hp =>
    have nx:u = .int x.val:=nx
    have ny:v = .int y.val:=ny
    subst nx ny
    refine Zkw (show (KX.r p hp).P≠0 by have:0<(KX.r p hp).P:=Zkv; omega) ⟨_,rfl,_,rfl,_,_,rfl,rfl,Zba (ZaW hp x) (ZaW hp y),_,rfl,_,_,rfl,rfl,(show (p:Int)≠0 by have:=hp.two; omega),k H _ (Same.refl H) ?_⟩
    show V.int (((x.val:Int)*y.val).fmod p)=V.int ((Fin.val (x*y):Nat):Int)
    have e:Fin.val (x*y)=(x.val*y.val)%p:=Fin.val_mul x y
    rw[e,Wm,We,W5 _ ⋯]
theorem Zk9:FnScope ["_law_prime_here", "_law_one", "_law_other"] ["_law_prime_here", "_law_one", "_law_other"] (Zah Zf8):=‹2›
theorem Zjy(h:Here K mg "_law_plus" Zf8) (h_l_fraction:Has P w K mg base "_law_fraction" 2 ["_law_top", "_law_bottom"] Zfj):Has P w K mg base "_law_plus" 3 ["_law_prime_here", "_law_one", "_law_other"] (Zbf λ_ x y=>x+y):=by
  refine h.has (λf fd F=>F.binds λ_ _ _ _ _ _ us hl=>by obtain ⟨_,_,_,rfl⟩:=Zew hl; exact rfl) λf fd F=>F.ok Zk9 (λvs H Q E h=>?_) (λcdv A outer s H vs Q E hr h=>?_)
  · obtain ⟨_,_,_,_,_,rfl,_⟩:=h
    rfl
  obtain ⟨κ,u,v,x,y,rfl,nx,ny,bx,by',k⟩:=h
  refine ⟨_,(Zab (ZaB (Zap Za9 (pv 0) Zad (Zas _)) (Zae (Zal (Zan h_l_fraction hr (by rfl) (Zaa (Zao Za0 (Zao ZaA (Zam Zaq (pv 1) Zad (λ_ _=>rfl)) (Zam Zaq (pv 2) Zad (λ_ _=>rfl))) (Zao ZaA (Zam Zaq (pv 2) Zad (λ_ _=>rfl)) (Zam Zaq (pv 1) Zad (λ_ _=>rfl)))) (Zaa (Zao ZaA (Zam Zaq (pv 1) Zad (λ_ _=>rfl)) (Zam Zaq (pv 2) Zad (λ_ _=>rfl))) Zac))))) Zat)
    (Zae (Zal (Zao Za1 (Zao Za0 (pv 1) (pv 2)) (pv 0))))),?_⟩
  refine ⟨_,rfl,rfl,_,rfl,?_⟩
  cases κ with
  | q =>
    obtain ⟨a,rfl,ha⟩:=nx
    obtain ⟨b,rfl,hb⟩:=ny
    refine ZhT (show KX.q.P=0 from rfl) ?_
    have px:=(Za6 x).pos
    have py:=(Za6 y).pos
    refine ⟨_,rfl,a,_,0,_,rfl,rfl,SqT.of ha,rfl,_,rfl,b,_,1,_,rfl,rfl,SqT.of hb,rfl,_,_,rfl,rfl,bx.1.mulG by'.2,_,rfl,b,_,0,_,rfl,rfl,SqT.of hb,rfl,_,rfl,a,_,1,_,rfl,rfl,SqT.of ha,rfl,_,_,rfl,rfl,by'.1.mulG bx.2,_,_,rfl,rfl,_,rfl,a,_,1,_,rfl,rfl,SqT.of ha,rfl,_,rfl,b,_,1,_,rfl,rfl,SqT.of hb,rfl,_,_,rfl,rfl,(bx.2.up ∅).mulG by'.2,_,_,rfl,Qp px py,(bx.2.times by'.2),λr hr'=>?_⟩
    have e:x+y=Rat.divInt (x.num*y.den+y.num*x.den) ((x.den:Int)*y.den):=by
      rw[<-Rat.divInt_add_divInt _ _ ⋯ ⋯,Qv,Qv]
    refine k _ _ (Zag hr' _) ⟨r,rfl,?_⟩
    rw[Zaf]
    show _=some (HO.tup [.int (x+y).num,.int ((x+y).den:Int)])
    rw[e]
  | r p hp =>
    have nx:u = .int x.val:=nx
    have ny:v = .int y.val:=ny
    subst nx ny
    refine Zkw (show (KX.r p hp).P≠0 by have:0<(KX.r p hp).P:=Zkv; omega) ⟨_,rfl,_,rfl,_,_,rfl,rfl,_,rfl,_,_,rfl,rfl,(show (p:Int)≠0 by have:=hp.two; omega),k H _ (Same.refl H) ?_⟩
    show V.int (((x.val:Int)+y.val).fmod p)=V.int ((Fin.val (x+y):Nat):Int)
    have e:Fin.val (x+y)=(x.val+y.val)%p:=Fin.val_add x y
    rw[e,Wm,Int.natCast_add,W5 _ ⋯]
theorem Zjz:FnScope ["_law_prime_here", "_law_number"] ["_law_prime_here", "_law_number"] (Zah Ze7):=‹2›
theorem Zif(h:Here K mg "_law_drawn" Ze7) (h_l_fraction:Has P w K mg base "_law_fraction" 2 ["_law_top", "_law_bottom"] Zfj):Has P w K mg base "_law_drawn" 3 ["_law_prime_here", "_law_number"] Zdx:=by
  refine h.has (λf fd F=>F.binds λ_ _ _ _ _ _ us hl=>by obtain ⟨_,_,rfl⟩:=ZdJ hl; exact rfl) λf fd F=>F.ok Zjz (λvs H Q E h=>?_) (λcdv A outer s H vs Q E hr h=>?_)
  · obtain ⟨_,_,rfl,_⟩:=h
    rfl
  obtain ⟨κ,c,rfl,k⟩:=h
  refine ⟨_,(Zab (ZaB (Zap ZiY (pv 0) Zad (Zas _)) (Zae (Zal (Zam Zau (ZaQ (Zaa Zad (Zaa Zad (Zaa (Zao ZcK (pv 0) Zad) (Zaa (Zao Za1 (Zao Zb6 (pv 1) Zad) (pv 0)) Zac))))) (Zao ZbX (pv 1) Zad) (λ_ _=>rfl)))) Zat)
    (Zab (ZaB (Zap Za9 (Zao ZbX (pv 1) Zad) Zad (Zas _)) (Zae (Zal (Za2 (Zaa (Zao ZcK (Zao ZbX (Zao Zb6 (pv 1) Zad) Zad) Zad) (Zaa Zad Zac))))) Zat)
    (Zae (Zal (Zan h_l_fraction hr (by rfl) (Zaa (Zao ZcK (Zao ZbX (Zao Zb6 (pv 1) Zad) Zad) Zad) (Zaa (Zao Za0 Zad (Zao ZbX (Zao Zb6 (pv 1) Zad) Zad)) Zac))))))),?_⟩
  refine ⟨_,rfl,_,_,rfl,rfl,_,rfl,?_⟩
  cases κ with
  | r p hp =>
    have h2:=hp.two
    refine Zcy (show (0:Int)<(KX.r p hp).P from Zkv) ⟨_,rfl,_,_,rfl,rfl,_,rfl,_,_,rfl,rfl,⟨∅,∅⟩,_,rfl,_,_,rfl,rfl,(show (p:Int)≠0 by omega),(by show 4<=sizeLine; decide),λl nl=>?_⟩
    obtain ⟨x4,e4⟩:=Zos hp (c/4)
    have key:∃(v:V) (x:Fin p),atI [V.int 0,V.int 1,V.int ((p:Int)-1),V.int ((c/4).fmod p)] (c%4)=some v/\v = .int (x.val:Int):=by
      rcases (by omega:c%4=0\/c%4=1\/c%4=2\/c%4=3) with e | e | e | e <;> rw[e]
      · exact ⟨_,⟨0,⋯⟩,rfl,rfl⟩
      · exact ⟨_,⟨1,⋯⟩,rfl,rfl⟩
      · exact ⟨_,⟨p-1,⋯⟩,rfl,by show V.int ((p:Int)-1)=V.int (((p-1:Nat)):Int); congr 1; omega⟩
      · exact ⟨_,x4,rfl,by rw[e4]⟩
    obtain ⟨v,x,av,ev⟩:=key
    exact ⟨_,rfl,_,_,rfl,rfl,(by show (0:Int)<_; decide),l,_,_,_,rfl,rfl,SqL.of Zaf,av,k _ v x (Zag nl _) ev trivial⟩
  | q =>
    refine ZcW (show ¬(0:Int)<0 by decide) ?_
    refine ⟨_,rfl,_,_,rfl,rfl,(by show (0:Int)<_; decide),rfl,_,rfl,?_⟩
    refine Zbr (λ_=>?_) (λ_=>?_)
    · obtain ⟨x,e1,e2⟩:=ZiA (n:=c/3%3-1) (d:=1) ⟨∅,by rw[Int.gcd_one]⟩
      refine ⟨_,rfl,_,_,rfl,rfl,⟨∅,∅⟩,_,_,rfl,rfl,(by show (0:Int)<_; decide),_,_,rfl,rfl,(by show 2<=sizeLine; decide),λz nz=>?_⟩
      have ex:x=Rat.divInt (c/3%3-1) 1:=by rw[<-e1,<-e2,Qv]
      refine k _ _ x (Zag nz _) ⟨z,rfl,?_⟩ ?_
      · rw[Zaf,e1,e2]
      · rw[ex]; exact ZpS ∅ ∅ ⋯
    · refine ⟨_,rfl,_,_,rfl,rfl,⟨∅,∅⟩,_,_,rfl,rfl,(by show (0:Int)<_; decide),_,_,rfl,rfl,_,rfl,_,_,rfl,rfl,⟨∅,∅⟩,_,_,rfl,rfl,(by show (0:Int)<_; decide),_,_,rfl,rfl,c/3%19-9,1+c/57%4,rfl,⋯,Bits.of (Q7 (show _<2^3 by show _<8; omega) (Qd ∅ ∅)),λr nr=>?_⟩
      exact k _ _ (Rat.divInt (c/3%19-9) (1+c/57%4)) (Zag nr _) ⟨r,rfl,Zaf⟩ (ZpS ⋯ ⋯ ⋯)
end
end My
namespace My
open PySem L2 PyProof.Rows
section
variable{P:Program}{w:World}{K:PySem.W.Frag}{mg:Str->Option Value}{base:Heap}
theorem sc_l_is_row:FnScope ["_law_prime_here", "_law_found", "_law_many", "_law_one"] ["_law_prime_here", "_law_found", "_law_many"] (Zah Zd0):=‹2›
theorem ZgO(h:Here K mg "_law_is_row" Zd0) (T:Nm mg) (h_l_is_number:Has P w K mg base "_law_is_number" 2 ["_law_prime_here", "_law_found"] Zc0):Has P w K mg base "_law_is_row" 3 ["_law_prime_here", "_law_found", "_law_many"] ZcD:=by
  refine h.has (λf fd F=>F.binds λ_ _ _ _ _ _ us hl=>by obtain ⟨_,_,_,rfl⟩:=Zew hl; exact rfl) λf fd F=>F.ok sc_l_is_row (λvs H Q E h=>?_) (λcdv A outer s H vs Q E hr h=>?_)
  · obtain ⟨_,_,_,_,rfl,_⟩:=h
    rfl
  obtain ⟨κ,a,xs,fl,rfl,ha,al,k⟩:=h
  have nd:=sc_l_is_row.nd
  refine ⟨_,(Zab (ZaB (Zdj (ZbD (ZaY (Zak Zaz (by rfl) T.isinstance boot_isinstance (Zaa (pv 1) (Zaa (Zg2 (by rfl) T.list boot_list) Zac))))) (ZdE (Zap ZeB (Zak Zai (by rfl) T.len boot_len (Zaa (pv 1) Zac)) (pv 2) (Zas _)))).pt (Zae (Zal Zcj)) Zat)
    (Zab (ZaI PassesOwn.never rfl (ZaC (pv 1)) (Zar (i:=3) nd rfl (Or.inl rfl)) (Zae (ZaB (ZbD (ZaY (Zan h_l_is_number hr (by rfl) (Zaa (pv 0) (Zaa (pv 3) Zac))))) (Zae (Zal Zcj)) Zat)))
    (Zae (Zal Zcj)))),?_⟩
  refine ⟨_,rfl,_,_,_,_,rfl,.of (.lst ha),.ty (ZdG K _),_,rfl,Zc7 ?_⟩
  refine ⟨_,rfl,a,_,rfl,.inl (SqL.of ha),_,rfl,rfl,_,rfl,?_⟩
  rw[al.1]
  refine ZcL (λz=>absurd rfl z) (λ_=>?_)
  refine ⟨_,rfl,a,rfl,⟨_,SqL.of ha⟩,?_⟩
  refine Za8 (xs:=xs) (λj σ H4=>∃z3:Option V,σ=[some (.int κ.P),some (.ref a),some (.int (fl.length:Int)),z3]/\H4=H) ⟨_,rfl,rfl⟩ ?_ ?_ ?_
  · rintro j σ H4-⟨z3,rfl,rfl⟩
    exact SqL.of ha
  · rintro j u σ H4 hu ⟨z3,rfl,rfl⟩
    obtain ⟨x,hx',nx⟩:=al.get hu
    exact ⟨_,rfl,_,rfl,κ,u,x,rfl,nx,_,rfl,Zc7 ⟨_,rfl,rfl⟩⟩
  · rintro σ H4 ⟨z3,rfl,rfl⟩
    exact k
theorem ZjA:FnScope ["_law_prime_here", "_law_one", "_law_other"] ["_law_prime_here", "_law_one", "_law_other"] (Zah Ze6):=‹2›
theorem Zht(h:Here K mg "_law_minus" Ze6) (h_l_make:Has P w K mg base "_law_make" 3 ["_law_prime_here", "_law_number"] Zbj) (h_l_plus:Has P w K mg base "_law_plus" 3 ["_law_prime_here", "_law_one", "_law_other"] (Zbf λ_ x y=>x+y)) (h_l_times:Has P w K mg base "_law_times" 3 ["_law_prime_here", "_law_one", "_law_other"] (Zbf λ_ x y=>x*y)):Has P w K mg base "_law_minus" 4 ["_law_prime_here", "_law_one", "_law_other"] (Zbf λ_ x y=>x-y):=by
  refine h.has (λf fd F=>F.binds λ_ _ _ _ _ _ us hl=>by obtain ⟨_,_,_,rfl⟩:=Zew hl; exact rfl) λf fd F=>F.ok ZjA (λvs H Q E h=>?_) (λcdv A outer s H vs Q E hr h=>?_)
  · obtain ⟨_,_,_,_,_,rfl,_⟩:=h
    rfl
  obtain ⟨κ,u,v,x,y,rfl,nu,nv,bx,by_,k⟩:=h
  refine ⟨_,(Zae (Zal (Zan h_l_plus hr (by rfl) (Zaa (pv 0) (Zaa (pv 1) (Zaa (Zan h_l_times hr (by rfl) (Zaa (pv 0) (Zaa (Zan h_l_make hr (by rfl) (Zaa (pv 0) (Zaa (ZgQ Zet Zad) Zac))) (Zaa (pv 2) Zac)))) Zac)))))),?_⟩
  refine ⟨_,rfl,_,rfl,_,rfl,_,rfl,_,rfl,κ,-1,Km1 κ,rfl,ZoB,λH1 vm S1 nm=>?_⟩
  refine ⟨_,rfl,κ,vm,v,_,_,rfl,nm,nv.same S1,Zpx,by_,λH2 t S2 nt=>?_⟩
  have nt:NR κ H2 t (Km1 κ*y):=nt
  rw[ZlQ] at nt
  refine ⟨κ,u,t,_,_,rfl,nu.same (S1.trans S2),nt,bx,Zmo by_,λH3 t3 S3 nt3=>?_⟩
  have nt3:NR κ H3 t3 (x+(0-y)):=nt3
  refine k H3 t3 (S1.trans (S2.trans S3)) ?_
  show NR κ H3 t3 (x-y)
  rw[show x-y=x+(0-y) by grind]
  exact nt3
theorem Zhu:FnScope ["_law_cells", "_law_k"] ["_law_cells", "_law_k"] (Zah Zdr):=‹2›
theorem Zhv(h:Here K mg "_law_cell_at" Zdr) (T:Nm mg):Has P w K mg base "_law_cell_at" 1 ["_law_cells", "_law_k"] (Zb5 K):=by
  refine h.has (λf fd F=>F.binds λ_ _ _ _ _ _ us hl=>by obtain ⟨_,_,rfl⟩:=ZdJ hl; exact rfl) λf fd F=>F.ok Zhu (λvs H Q E h=>?_) (λcdv A outer s H vs Q E hr h=>?_)
  · obtain ⟨_,_,_,rfl,_⟩:=h
    rfl
  obtain ⟨a,cs,i,rfl,ha,i0,k⟩:=h
  refine ⟨_,(Zab (ZaB (Zap ZdW (pv 1) (Zak Zai (by rfl) T.len boot_len (Zaa (pv 0) Zac)) (Zas _)) (Zae (Zal (Zam Zau (pv 0) (pv 1) (λ_ _=>rfl)))) Zat)
    (Zae (Zal Zad))),?_⟩
  refine ⟨_,rfl,_,rfl,a,_,rfl,.inl ha,_,_,rfl,rfl,_,rfl,?_⟩
  rw[Q1]
  refine Zbq (λz=>?_) (λz=>k 0)
  have z:i<(cs.length:Int):=z
  have e:i=((i.toNat:Nat):Int):=by omega
  exact ⟨_,rfl,_,rfl,a,_,_,_,rfl,rfl,ha,(by rw[e]; exact Zop (i:=i.toNat) ⋯),k _⟩
theorem sc_l_rows_by:FnScope ["_law_prime_here", "_law_cells", "_law_at", "_law_rows", "_law_columns", "_law_told", "_law_i"] ["_law_prime_here", "_law_cells", "_law_at", "_law_rows", "_law_columns"] (Zah Zds):=‹2›
theorem Zhw(h:Here K mg "_law_rows_by" Zds) (T:Nm mg) (h_l_drawn:Has P w K mg base "_law_drawn" 3 ["_law_prime_here", "_law_number"] Zdx) (h_l_cell_at:Has P w K mg base "_law_cell_at" 3 ["_law_cells", "_law_k"] (Zb5 K)):Has P w K mg base "_law_rows_by" 4 ["_law_prime_here", "_law_cells", "_law_at", "_law_rows", "_law_columns"] Zc1:=by
  refine h.has (λf fd F=>F.binds λ_ _ _ _ _ _ us hl=>by obtain ⟨_,_,_,_,_,rfl⟩:=Zqp hl; exact rfl) λf fd F=>F.ok sc_l_rows_by (λvs H Q E h=>?_) (λcdv A outer s H vs Q E hr h=>?_)
  · obtain ⟨_,_,_,_,_,_,rfl,_⟩:=h
    rfl
  obtain ⟨κ,ca,cs,a0,n,m,rfl,hC,a1,a2,n7,m7,k⟩:=h
  have nd:=sc_l_rows_by.nd
  refine ⟨_,(Zab (Zaj (i:=5) nd rfl (Or.inl rfl) (ZaQ Zac))
    (Zab (ZaI PassesOwn.never rfl (Zay (by rfl) T.range (Zaa (pv 3) Zac)) (Zar (i:=6) nd rfl (Or.inr rfl)) (Zae (ZaE (ZeC PySem.F.plainAttrs_list PySem.F.slot_list_append PySem.F.type_list_append Za3 (pv 5) (Zaa (ZaX ["_law_j"] [(0, "_law_prime_here"),(1, "_law_cells"),(2, "_law_at"),(4, "_law_columns"),(6, "_law_i")] rfl (Zay (by rfl) T.range (Zaa (pv 4) Zac)) (by exact λ_ _ _ _=>(Zar (i:=0) (show (["_law_j", "_law_prime_here", "_law_cells", "_law_at", "_law_columns", "_law_i"]:List Str).Nodup by decide +kernel) rfl (Or.inl rfl))) (by exact λ_ _ _ _=>(Zan h_l_drawn hr (by rfl) (Zaa (pv 1) (Zaa (Zan h_l_cell_at hr (by rfl) (Zaa (pv 2) (Zaa (Zao Za0 (Zao Za0 (pv 3) (Zao ZaA (pv 4) (pv 5))) (pv 0)) Zac))) Zac)))) ⟨⟨rfl,rfl,Or.inl rfl⟩,⟨⟨rfl,rfl,Or.inl rfl⟩,⟨⟨rfl,rfl,Or.inl rfl⟩,⟨⟨rfl,rfl,Or.inl rfl⟩,⟨⟨rfl,rfl,Or.inl rfl⟩,trivial⟩⟩⟩⟩⟩) Zac)))))
    (Zae (Zal (pv 5))))),?_⟩
  refine ⟨(by show 0<=sizeLine; decide),λtb ntb=>?_⟩
  have St:=Zag ntb (.lst [])
  have qt:=Zaf (H:=H) (a:=tb) (o:=.lst [])
  generalize upd H tb (.lst [])=H1 at *
  refine ⟨_,rfl,(n:Int),rfl,⋯,⋯,?_⟩
  rw[Q6]
  refine ZaG (lo:=0) (n:=n) (λi σ H3=>∃(z6:Option V) (rs:List Addr) (R:List (List κ.F)),σ=[some (.int κ.P),some (.ref ca),some (.int a0),some (.int (n:Int)),some (.int (m:Int)),some (.ref tb),z6]/\Same H H3/\H3 tb=some (.lst (rs.map V.ref))/\RowsX κ H3 rs R/\R.length=i/\Wid m R/\AllR (QN κ ((12:Nat):Int) 108) R/\tb∉rs/\rs.Nodup/\∀a∈rs,H a=none) ⟨_,[],[],rfl,St,qt,.nil,rfl,(λf h=>nomatch h),(λf h=>nomatch h),(λz=>nomatch z),List.nodup_nil,λa h=>nomatch h⟩ ?_ ?_
  · rintro i σ H3 hi ⟨z6,rs,R,rfl,S3,hT,rx,lR,wd,qR,nt,ndr,fr⟩
    have lr:=rx.1
    refine ⟨_,rfl,.inl ⟨rfl,_,SqL.of hT⟩,_,rfl,(m:Int),rfl,⋯,⋯,?_⟩
    rw[Q6]
    refine Zbu (lo:=0) (n:=m) (λq ys H4=>Same H3 H4/\∃g:List κ.F,AllG (NR κ H4) ys g/\g.length=q/\∀x∈g,QN κ 12 108 x) ⋯ ⟨Same.refl _,[],.nil,rfl,λx h=>nomatch h⟩ ?_ ?_
    · rintro q ys H4 hq _ ⟨S4,g,ag,lg,qg⟩
      refine ⟨_,rfl,_,rfl,_,rfl,_,rfl,_,rfl,_,_,rfl,rfl,Zba (Q0 (show ((m:Int)).natAbs<=1000 by omega) ∅) (Q0 (show ((0+(i:Int))).natAbs<=1000 by omega) ∅),_,_,rfl,rfl,_,rfl,_,_,rfl,rfl,ca,cs,_,rfl,SqL.of ((S3.trans S4) _ _ hC),?_,λc=>?_⟩
      · have:0<=(m:Int)*(0+(i:Int)):=U9 ⋯ ⋯
        omega
      · refine ⟨κ,c,rfl,λH7 v x S7 nv qv=>⟨S4.trans S7,g++[x],(ag.mono λ_ _ n=>n.same S7).append (.one nv),by rw[Qb,lg]; rfl,λy hy=>?_⟩⟩
        rcases Qj.mp hy with z | z
        · exact qg y z
        · rw[Q5.mp z]; exact qv
    rintro ys H4 _ ⟨S4,g,ag,lg,qg⟩ rw_ nrw4
    have nrw:H3 rw_=none:=S4.free nrw4
    have nwr:=rx.notin nrw
    have nwt:rw_≠tb:=λz=>by rw[z,hT] at nrw; cases nrw
    have Sw:=Zag nrw4 (.lst ys)
    have qw:=Zaf (H:=H4) (a:=rw_) (o:=.lst ys)
    have S5:=S4.trans Sw
    have e5:=ag.mono λ_ _ n=>n.same Sw
    generalize upd H4 rw_ (.lst ys)=H5 at *
    have hT5:=S5 _ _ hT
    refine ⟨tb,_,_,rfl,rfl,hT5,Q7 (show (rs.map V.ref).length<1000 by rw[Q1]; omega) ∅,?_⟩
    have O9:Off [tb] H5 (upd H5 tb (.lst (rs.map V.ref++[.ref rw_]))):=ZaH (Same.refl H5)
    refine ⟨_,rs++[rw_],R++[g],rfl,Off.same O9 (S3.trans S5) (λz hz=>by rw[Q5.mp hz]; exact ntb),by rw[Zaf,Qn]; rfl,((rx.same S5).off nt hT5 O9).snoc (O9 _ _ (λz=>nwt (Q5.mp z)) qw) (e5.mono λ_ _ n=>n.off hT5 O9),by rw[Qb,lR]; rfl,wd.snoc lg,qR.snoc qg,λz=>?_,ZfU ndr nwr,λz hz=>?_⟩
    · rcases Qj.mp z with q | q
      · exact nt q
      · exact nwt (Q5.mp q).symm
    · rcases Qj.mp hz with q | q
      · exact fr z q
      · rw[Q5.mp q]; exact S3.free nrw
  · rintro σ H3 ⟨z6,rs,R,rfl,S3,hT,rx,lR,wd,qR,nt,ndr,fr⟩
    exact ⟨_,rfl,k H3 tb rs R S3 hT rx lR wd qR fr ndr⟩
theorem Zla:FnScope ["_law_prime_here", "_law_cell"] ["_law_prime_here", "_law_cell"] (Zah Zf9):=‹2›
theorem Zig(h:Here K mg "_law_size" Zf9):Has P w K mg base "_law_size" 1 ["_law_prime_here", "_law_cell"] ZdA:=by
  refine h.has (λf fd F=>F.binds λ_ _ _ _ _ _ us hl=>by obtain ⟨_,_,rfl⟩:=ZdJ hl; exact rfl) λf fd F=>F.ok Zla (λvs H Q E h=>?_) (λcdv A outer s H vs Q E hr h=>?_)
  · obtain ⟨_,_,rfl,_⟩:=h
    rfl
  obtain ⟨κ,c,rfl,k⟩:=h
  refine ⟨_,(Zab (ZaB (Zap Za9 (pv 0) Zad (Zas _)) (Zae (Zal (Zam Zau (ZaQ (Zaa Zad (Zaa Zad (Zaa Zad (Zaa Zad Zac))))) (Zao ZbX (pv 1) Zad) (λ_ _=>rfl)))) Zat)
    (Zae (Zal (Zam Zau (ZaQ (Zaa Zad (Zaa Zad (Zaa Zad (Zaa Zad (Zaa Zad (Zaa Zad (Zaa Zad (Zaa Zad Zac))))))))) (Zao ZbX (pv 1) Zad) (λ_ _=>rfl))))),?_⟩
  refine ⟨_,rfl,rfl,_,rfl,?_⟩
  refine Zbr (λ_=>?_) (λpz=>?_)
  · obtain ⟨n,en,n1,n7⟩:∃n:Nat,atI [V.int 1,V.int 2,V.int 2,V.int 3] (c%4)=some (.int (n:Int))/\1<=n/\n<=3:=by
      rcases (by omega:c%4=0\/c%4=1\/c%4=2\/c%4=3) with e | e | e | e <;> rw[e]
      · exact ⟨1,rfl,∅,∅⟩
      · exact ⟨2,rfl,∅,∅⟩
      · exact ⟨2,rfl,∅,∅⟩
      · exact ⟨3,rfl,∅,∅⟩
    refine ⟨(by show 4<=sizeLine; decide),λl nl=>?_⟩
    exact ⟨_,rfl,_,_,rfl,rfl,(by show (0:Int)<_; decide),l,_,_,_,rfl,rfl,SqL.of Zaf,en,k _ n (Zag nl _) n1 ⋯ λ_=>n7⟩
  · obtain ⟨n,en,n1,n7⟩:∃n:Nat,atI [V.int 1,V.int 2,V.int 3,V.int 4,V.int 2,V.int 3,V.int 5,V.int 7] (c%8)=some (.int (n:Int))/\1<=n/\n<=7:=by
      rcases (by omega:c%8=0\/c%8=1\/c%8=2\/c%8=3\/c%8=4\/c%8=5\/c%8=6\/c%8=7) with e | e | e | e | e | e | e | e <;> rw[e]
      · exact ⟨1,rfl,∅,∅⟩
      · exact ⟨2,rfl,∅,∅⟩
      · exact ⟨3,rfl,∅,∅⟩
      · exact ⟨4,rfl,∅,∅⟩
      · exact ⟨2,rfl,∅,∅⟩
      · exact ⟨3,rfl,∅,∅⟩
      · exact ⟨5,rfl,∅,∅⟩
      · exact ⟨7,rfl,∅,∅⟩
    refine ⟨(by show 8<=sizeLine; decide),λl nl=>?_⟩
    exact ⟨_,rfl,_,_,rfl,rfl,(by show (0:Int)<_; decide),l,_,_,_,rfl,rfl,SqL.of Zaf,en,k _ n (Zag nl _) n1 n7 λe=>absurd (by rw[e]; rfl) pz⟩
theorem sc_l_image:FnScope ["_law_prime_here", "_law_table", "_law_column", "_law_told", "_law_row", "_law_one", "_law_j"] ["_law_prime_here", "_law_table", "_law_column"] (Zah Ze8):=‹2›
theorem ZjB(h:Here K mg "_law_image" Ze8) (T:Nm mg) (h_l_make:Has P w K mg base "_law_make" 3 ["_law_prime_here", "_law_number"] Zbj) (h_l_plus:Has P w K mg base "_law_plus" 3 ["_law_prime_here", "_law_one", "_law_other"] (Zbf λ_ x y=>x+y)) (h_l_times:Has P w K mg base "_law_times" 3 ["_law_prime_here", "_law_one", "_law_other"] (Zbf λ_ x y=>x*y)):Has P w K mg base "_law_image" 4 ["_law_prime_here", "_law_table", "_law_column"] Zep:=by
  refine h.has (λf fd F=>F.binds λ_ _ _ _ _ _ us hl=>by obtain ⟨_,_,_,rfl⟩:=Zew hl; exact rfl) λf fd F=>F.ok sc_l_image (λvs H Q E h=>?_) (λcdv A outer s H vs Q E hr h=>?_)
  · obtain ⟨_,_,_,_,_,_,_,_,_,rfl,_⟩:=h
    rfl
  obtain ⟨κ,ta,ca,rs,R,xs,c,D,M,rfl,hT,rx,wd,n7,c7,hC,al,qR,qc,d0,dl,ml,k⟩:=h
  have nd:=sc_l_image.nd
  refine ⟨_,(Zab (Zaj (i:=3) nd rfl (Or.inl rfl) (ZaQ Zac))
    (Zab (ZaI PassesOwn.never rfl (ZaC (pv 1)) (Zar (i:=4) nd rfl (Or.inl rfl)) (Zab (Zaj (i:=5) nd rfl (Or.inl rfl) (Zan h_l_make hr (by rfl) (Zaa (pv 0) (Zaa Zad Zac))))
      (Zab (ZaI PassesOwn.never rfl (Zay (by rfl) T.range (Zaa (Zak Zai (by rfl) T.len boot_len (Zaa (pv 2) Zac)) Zac)) (Zar (i:=6) nd rfl (Or.inl rfl)) (Zae (Zaj (i:=5) nd rfl (Or.inl rfl) (Zan h_l_plus hr (by rfl) (Zaa (pv 0) (Zaa (pv 5) (Zaa (Zan h_l_times hr (by rfl) (Zaa (pv 0) (Zaa (Zam Zau (pv 4) (pv 6) (λ_ _=>rfl)) (Zaa (Zam Zau (pv 2) (pv 6) (λ_ _=>rfl)) Zac)))) Zac)))))))
      (Zae (ZaE (ZeC PySem.F.plainAttrs_list PySem.F.slot_list_append PySem.F.type_list_append Za3 (pv 3) (Zaa (pv 5) Zac)))))))
    (Zae (Zal (pv 3))))),?_⟩
  have lr:=rx.1
  have lx:=al.1
  refine ⟨(by show 0<=sizeLine; decide),λtb ntb=>?_⟩
  have St:=Zag ntb (.lst [])
  have qt:=Zaf (H:=H) (a:=tb) (o:=.lst [])
  generalize upd H tb (.lst [])=H1 at *
  refine ⟨_,rfl,ta,rfl,⟨_,SqL.of (St _ _ hT)⟩,?_⟩
  refine Za8 (xs:=rs.map V.ref) (λi σ H2=>∃(z4 z5 z6:Option V) (zs:List V),σ=[some (.int κ.P),some (.ref ta),some (.ref ca),some (.ref tb),z4,z5,z6]/\Same H H2/\H2 tb=some (.lst zs)/\AllG (NR κ H2) zs ((R.take i).map λr=>Zgy r c c.length)) ⟨_,_,_,[],rfl,St,qt,.nil⟩ ?_ ?_ ?_
  · rintro i σ H2-⟨z4,z5,z6,zs,rfl,S2,-⟩
    exact SqL.of (S2 _ _ hT)
  · rintro i v σ H2 hv ⟨z4,z5,z6,zs,rfl,S2,q2,e2⟩
    obtain ⟨b,hb,rfl⟩:=Zaw hv
    obtain ⟨r,hr'⟩:=Zax hb lr
    obtain ⟨ws,hw,aw⟩:=rx.2 i b r hb hr'
    have mr:=Q8 hr'
    have lw:=wd r mr
    have hi:i<rs.length:=(Qk.mp hb).1
    refine ⟨_,rfl,κ,0,0,rfl,ZfA,λH3 v0 S3 n0=>?_⟩
    have S03:=S2.trans S3
    refine ⟨_,rfl,ca,_,rfl,.inl (SqL.of (S03 _ _ hC)),(xs.length:Int),rfl,⋯,⋯,?_⟩
    rw[show ((xs.length:Int)).toNat=c.length by omega]
    refine ZaG (lo:=0) (n:=c.length) (λj σ H4=>∃(z6:Option V) (v:V),σ=[some (.int κ.P),some (.ref ta),some (.ref ca),some (.ref tb),some (.ref b),some v,z6]/\Same H3 H4/\NR κ H4 v (Zgy r c j)) ⟨_,v0,rfl,Same.refl _,n0⟩ ?_ ?_
    · rintro j σ H4 hj ⟨z6,v,rfl,S4,nv⟩
      obtain ⟨va,hva,na⟩:=Zdw aw (i:=j) ⋯
      obtain ⟨vc,hvc,nc⟩:=Zdw al (i:=j) hj
      have S04:=S03.trans S4
      have qa:=qR r mr _ (Q8 (Zgw (show j<r.length by omega)))
      have qc':=qc _ (Q8 (Zgw hj))
      have qd:=Zgz (D:=((12:Nat):Int)) (E:=(D:Int)) (Qp ∅ ⋯) (qR r mr) qc j ⋯ ⋯
      rw[<-We] at qd
      have m1:j*(108*M)<=7*(108*10^50):=Qm ⋯ (W6 _ ml)
      have d12:12*D<=10^200:=Q0 (W6 12 dl) ∅
      refine ⟨_,rfl,_,rfl,_,rfl,_,rfl,_,rfl,b,_,_,va,rfl,rfl,SqL.of (S04 _ _ hw),(by rw[Qc]; exact ZaF hva),_,rfl,_,rfl,ca,_,_,vc,rfl,rfl,SqL.of (S04 _ _ hC),(by rw[Qc]; exact ZaF hvc),κ,va,vc,_,_,rfl,na.same S04,nc.same S04,ZbM ∅ ∅ ∅ qa,ZbM d0 (Q0 dl ∅) (Q0 ml ∅) qc',λH5 vp S5 np=>?_⟩
      refine ⟨κ,v,vp,_,_,rfl,nv.same S5,np,ZbM (U7 ∅ d0) d12 (Q0 m1 ∅) qd,ZbM (U7 ∅ d0) d12 (Q0 (W6 108 ml) ∅) (QN.mulN qa qc'),λH6 v6 S6 n6=>?_⟩
      exact ⟨_,v6,rfl,S4.trans (S5.trans S6),n6⟩
    · rintro σ H4 ⟨z6,v,rfl,S4,nv⟩
      have S24:=S3.trans S4
      have q4:=S24 _ _ q2
      have lz:=e2.1
      rw[Q1,Qi] at lz
      refine ⟨_,rfl,.inl ⟨rfl,_,SqL.of q4⟩,_,rfl,tb,zs,_,rfl,rfl,q4,Q7 (show zs.length<1000 by omega) ∅,?_⟩
      have O:Off [tb] H4 (upd H4 tb (.lst (zs++[v]))):=ZaH (Same.refl H4)
      refine ⟨_,_,_,zs++[v],rfl,Off.same O (S2.trans S24) (λz hz=>by rw[Q5.mp hz]; exact ntb),Zaf,?_⟩
      rw[Qq,hr',Qn]
      exact (e2.mono λ_ _ n=>(n.same S24).off q4 O).append (.one (nv.off q4 O))
  · rintro σ H2 ⟨z4,z5,z6,zs,rfl,S2,q2,e2⟩
    rw[Q1,lr,Qz] at e2
    exact ⟨_,rfl,k H2 tb zs S2 ntb q2 e2⟩
end
end My
namespace My
open PySem L2 PyProof.Rows
section
variable{κ:KX}
theorem Zih(a b:List (Tn κ))(R:List (List κ.F)):ZcJ (a++b) R=ZcJ b (ZcJ a R):=List.foldl_append
theorem ZmH{x:κ.F}(h:x≠0):Fd.inv x≠0:=ZhZ h
structure Wek (R:List (List κ.F)) (n j:Nat) (ls:List Nat):Prop where
  le:ls.length<=n
  lt:∀k<ls.length,ls.getD k 0<j
  inc:∀k k',k<k'->k'<ls.length->ls.getD k 0<ls.getD k' 0
  piv:∀k<ls.length,ent R k (ls.getD k 0)≠0
  pre:∀k<ls.length,∀c<ls.getD k 0,ent R k c=0
  out:∀i,ls.length<=i->i<n->∀c<j,ent R i c=0
theorem ZnK{R:List (List κ.F)}{n:Nat}:Wek R n 0 []:=⟨Qh _,λk h=>by simp at h,λk k' _ h=>by simp at h,λk h=>by simp at h,λk h=>by simp at h,λi _ _ c hc=>by omega⟩
theorem Wek.low{R:List (List κ.F)}{n j:Nat}{ls:List Nat}(h:Wek R n j ls){k i:Nat}(hk:k<ls.length)(ki:k<i)(hi:i<n):ent R i (ls.getD k 0)=0:=by
  by_cases q:i<ls.length
  · exact h.pre i q _ (h.inc k i ki q)
  · exact h.out i ⋯ hi _ (h.lt k hk)
theorem Wek.skip{R:List (List κ.F)}{n j:Nat}{ls:List Nat}(h:Wek R n j ls)(z:∀i,ls.length<=i->i<n->ent R i j=0):Wek R n (j+1) ls :=
  ⟨h.le,λk hk=>Nat.lt_succ_of_lt (h.lt k hk),h.inc,h.piv,h.pre,λi a b c hc=>by
    by_cases e:c=j
    · rw[e]; exact z i a b
    · exact h.out i a b c ⋯⟩
theorem Zlb{n m:Nat}{ls:List Nat}:∀p,p<=ls.length->∀ {R:List (List κ.F)},R.length=n->Wid m R->Wek R n m ls->∃ts:List (Tn κ),(∀t∈ts,t.ok n)/\Wek (ZcJ ts R) n m ls/\∀k<p,∀i<n,ent (ZcJ ts R) i (ls.getD k 0)=if i=k then 1 else 0
  | 0,_,R,_,_,h=>⟨[],λt ht=>(nomatch ht),h,λk hk=>by omega⟩
  | p+1,hp,R,hn,wd,h=>by
    obtain ⟨ts,ok,hw,hc⟩:=Zlb p ⋯ hn wd h
    have l1:(ZcJ ts R).length=n:=by rw[ZeI,hn]
    have w1:Wid m (ZcJ ts R):=ZeK wd (by rw[hn]; exact ok)
    generalize hR1:ZcJ ts R=R1 at *
    have pn:p<n:=by have:=h.le; omega
    have p0:=hw.piv p ⋯
    have lp:=hw.lt p ⋯
    have okS:(.scale (p:Int) (Fd.inv (ent R1 p (ls.getD p 0))):Tn κ).ok n:=⟨⟨⋯,⋯⟩,ZmH p0⟩
    have eS:∀i c,ent (doT (.scale (p:Int) (Fd.inv (ent R1 p (ls.getD p 0)))) R1) i c=if i=p then Fd.inv (ent R1 p (ls.getD p 0))*ent R1 i c else ent R1 i c:=λi c=>by
      have:=ZbS (R:=R1) (a:=(p:Int)) (c:=Fd.inv (ent R1 p (ls.getD p 0))) (by rw[Q6]; omega) i c
      rw[Q6] at this
      exact this
    have l2:=Zd9 (.scale (p:Int) (Fd.inv (ent R1 p (ls.getD p 0))):Tn κ) R1
    have w2:Wid m (doT (.scale (p:Int) (Fd.inv (ent R1 p (ls.getD p 0)))) R1):=Zfh w1 (by rw[l1]; exact okS)
    have hm:=Fd.mul_inv _ p0
    have i0:=ZmH p0
    generalize hg:Fd.inv (ent R1 p (ls.getD p 0))=g at *
    generalize hR2:doT (.scale (p:Int) g) R1=R2 at *
    have W2:Wek R2 n m ls:=⟨hw.le,hw.lt,hw.inc,λk hk=>by
        rw[eS]
        split
        · rename_i e; rw[e]; intro z
          have:ent R1 p (ls.getD p 0)*g=1:=hm
          have e1:(1:κ.F)=0:=by rw[<-this]; grind
          exact Fd.zne e1.symm
        · exact hw.piv k hk,λk hk c hcc=>by
        rw[eS,hw.pre k hk c hcc]
        split
        · grind
        · rfl,λi a b c hcc=>by
        rw[eS,hw.out i a b c hcc]
        split
        · grind
        · rfl⟩
    have C2:∀k<p,∀i<n,ent R2 i (ls.getD k 0)=if i=k then 1 else 0:=λk hk i hi=>by
      rw[eS,hc k hk i hi]
      split
      · rename_i e; rw[if_neg ⋯]; grind
      · rfl
    have P2:ent R2 p (ls.getD p 0)=1:=by
      rw[eS,if_pos rfl]
      have:ent R1 p (ls.getD p 0)*g=1:=hm
      rw[<-this]; grind
    have inner:∀r,r<=p->∃us:List (Tn κ),(∀t∈us,t.ok n)/\Wek (ZcJ us R2) n m ls/\(∀k<p,∀i<n,ent (ZcJ us R2) i (ls.getD k 0)=if i=k then 1 else 0)/\ent (ZcJ us R2) p (ls.getD p 0)=1/\∀i<r,ent (ZcJ us R2) i (ls.getD p 0)=0:=by
      intro r
      induction r with
      | zero=>intro _; exact ⟨[],λt ht=>(nomatch ht),W2,C2,P2,λi hi=>by omega⟩
      | succ r ih =>
        intro hr
        obtain ⟨us,oku,Wu,Cu,Pu,Zu⟩:=ih ⋯
        have l3:(ZcJ us R2).length=n:=by rw[ZeI]; omega
        have w3:Wid m (ZcJ us R2):=ZeK w2 (by rw[l2,l1]; exact oku)
        generalize hR3:ZcJ us R2=R3 at *
        have okA:(.add (r:Int) (p:Int) (0-ent R3 r (ls.getD p 0)):Tn κ).ok n:=⟨⟨⋯,⋯⟩,⟨⋯,⋯⟩,⋯⟩
        have eA:∀i c,ent (doT (.add (r:Int) (p:Int) (0-ent R3 r (ls.getD p 0))) R3) i c=if i=r then ent R3 i c+(0-ent R3 r (ls.getD p 0))*ent R3 p c else ent R3 i c:=λi c=>by
          have:=Zgp (R:=R3) (a:=(r:Int)) (b:=(p:Int)) (c:=0-ent R3 r (ls.getD p 0)) w3 (by rw[Q6]; omega) (by rw[Q6]; omega) i c
          rw[Q6,Q6] at this
          exact this
        refine ⟨us++[.add (r:Int) (p:Int) (0-ent R3 r (ls.getD p 0))],λt ht=>?_,?_⟩
        · rcases Qj.mp ht with z | z
          · exact oku t z
          · rw[Q5.mp z]; exact okA
        rw[Zhh,hR3]
        generalize hb:ent R3 r (ls.getD p 0)=b at *
        generalize hR4:doT (.add (r:Int) (p:Int) (0-b)) R3=R4 at *
        have rl:r<ls.length:=by omega
        have pr:∀c,c<ls.getD r 0->ent R3 p c=0:=λc hcc=>Wu.pre p ⋯ c (by have:=Wu.inc r p ⋯ ⋯; omega)
        refine ⟨⟨Wu.le,Wu.lt,Wu.inc,λk hk=>?_,λk hk c hcc=>?_,λi a b' c hcc=>?_⟩,λk hk i hi=>?_,?_,λi hi=>?_⟩
        · rw[eA]
          split
          · rename_i e
            rw[e,Cu r ⋯ r ⋯,if_pos rfl,Cu r ⋯ p ⋯,if_neg ⋯]
            intro z
            have:(1:κ.F)=0:=by rw[<-z]; grind
            exact Fd.zne this.symm
          · exact Wu.piv k hk
        · rw[eA,Wu.pre k hk c hcc]
          split
          · rename_i e; rw[e] at hcc; rw[pr c hcc]; grind
          · rfl
        · rw[eA,if_neg ⋯]; exact Wu.out i a b' c hcc
        · rw[eA,Cu k hk i hi]
          split
          · rw[Cu k hk p ⋯,if_neg (show ¬p=k by omega)]; grind
          · rfl
        · rw[eA,if_neg ⋯]; exact Pu
        · rw[eA]
          split
          · rename_i e; rw[e,hb,Pu]; grind
          · exact Zu i ⋯
    obtain ⟨us,oku,Wu,Cu,Pu,Zu⟩:=inner p (Q4 _)
    refine ⟨ts ++ .scale (p:Int) g::us,λt ht=>?_,?_⟩
    · rcases Qj.mp ht with z | z
      · exact ok t z
      · rcases Q9.mp z with z | z
        · rw[z]; exact okS
        · exact oku t z
    rw[Zih,hR1]
    show Wek (ZcJ us (doT _ R1)) n m ls/\_
    rw[show ZcJ (.scale (p:Int) g::us) R1=ZcJ us (doT (.scale (p:Int) g) R1) from rfl,hR2]
    refine ⟨Wu,λk hk i hi=>?_⟩
    by_cases e:k=p
    · rw[e]
      by_cases e2:i=p
      · rw[if_pos e2,e2]; exact Pu
      · rw[if_neg e2]
        rcases Nat.lt_or_gt_of_ne e2 with q | q
        · exact Zu i q
        · exact Wu.low ⋯ q hi
    · exact Cu k ⋯ i hi
end
end My
namespace My
open PySem L2 PyProof.Rows
section
variable{κ:KX}
noncomputable def swM(R:List (List κ.F))(q a:Nat):List (List κ.F):=(R.set a (R.getD q [])).set q (R.getD a [])
theorem ZnL(R:List (List κ.F))(q a:Nat):(swM R q a).length=R.length:=by unfold swM; rw[Qw,Qw]
theorem Zii{R:List (List κ.F)}{q a:Nat}(hq:q<R.length)(ha:a<R.length)(i c:Nat):ent (swM R q a) i c=if i=q then ent R a c else if i=a then ent R q c else ent R i c:=by
  unfold swM ent
  by_cases e:i=q
  · rw[if_pos e,e,ZaU (by rw[Qw]; exact hq)]
  · rw[if_neg e,Zbh (λz=>e z.symm)]
    by_cases e2:i=a
    · rw[if_pos e2,e2,ZaU ha]
    · rw[if_neg e2,Zbh (λz=>e2 z.symm)]
theorem ZnM{m:Nat}{R:List (List κ.F)}{q a:Nat}(hq:q<R.length)(ha:a<R.length)(w:Wid m R):Wid m (swM R q a):=(w.set (w.get hq)).set (w.get ha)
theorem ZnN{m:Nat}{R:List (List κ.F)}{q a:Nat}(hq:q<R.length)(ha:a<R.length)(u:Nat->κ.F):Ker (swM R q a) R.length m u↔Ker R R.length m u:=by
  have e:∀i,ent (swM R q a) i=if i=q then ent R a else if i=a then ent R q else ent R i:=λi=>by
    funext c
    rw[Zii hq ha]
    split
    · rfl
    · split <;> rfl
  constructor
  · intro k i hi
    by_cases e1:i=a
    · have:=k q hq
      rw[e,if_pos rfl] at this
      rw[e1]; exact this
    · by_cases e2:i=q
      · have:=k a ha
        rw[e,if_neg (λz=>e1 (by rw[e2,z])),if_pos rfl] at this
        rw[e2]; exact this
      · have:=k i hi
        rw[e,if_neg e2,if_neg e1] at this
        exact this
  · intro k i hi
    rw[e]
    split
    · exact k a ha
    · split
      · exact k q hq
      · exact k i hi
theorem ZnO{R:List (List κ.F)}{q a:Nat}(hq:q<R.length)(ha:a<R.length){i:Nat}(hi:i<R.length):∃i',i'<R.length/\(swM R q a).getD i []=R.getD i' []:=by
  unfold swM
  by_cases e:i=q
  · exact ⟨a,ha,by rw[e,ZaU (by rw[Qw]; exact hq)]⟩
  · rw[Zbh (λz=>e z.symm)]
    by_cases e2:i=a
    · exact ⟨q,hq,by rw[e2,ZaU ha]⟩
    · exact ⟨i,hi,by rw[Zbh (λz=>e2 z.symm)]⟩
noncomputable def elS(R:List (List κ.F))(q j i:Nat):List κ.F:=List.zipWith (λx y=>ent R q j*x-ent R i j*y) (R.getD i []) (R.getD q [])
theorem ZnP{m:Nat}{R:List (List κ.F)}{q j i:Nat}(wd:Wid m R)(hq:q<R.length)(hi:i<R.length):(elS R q j i).length=m:=by
  unfold elS
  rw[Uc,wd.get hi,wd.get hq,Nat.min_self]
theorem Zlc{m:Nat}{R:List (List κ.F)}{q j i c:Nat}(wd:Wid m R)(hq:q<R.length)(hi:i<R.length)(hc:c<m):(elS R q j i).getD c 0=ent R q j*ent R i c-ent R i j*ent R q c:=by
  unfold elS
  have l1:=wd.get hi
  have l2:=wd.get hq
  rw[Q3,List.getElem?_zipWith,Q2 (show c<(R.getD i []).length by omega),Q2 (show c<(R.getD q []).length by omega)]
  show ent R q j*(R.getD i [])[c]-ent R i j*(R.getD q [])[c]=_
  have e1:ent R i c=(R.getD i [])[c]:=by unfold ent; rw[Q3 (l:=R.getD i []),Q2 ⋯]; rfl
  have e2:ent R q c=(R.getD q [])[c]:=by unfold ent; rw[Q3 (l:=R.getD q []),Q2 ⋯]; rfl
  rw[e1,e2]
theorem Zde{R:List (List κ.F)}{i:Nat}{f:List κ.F}(hi:i<R.length)(i' c:Nat):ent (R.set i f) i' c=if i'=i then f.getD c 0 else ent R i' c:=by
  unfold ent
  by_cases e:i'=i
  · rw[if_pos e,e,ZaU hi]
  · rw[if_neg e,Zbh (λz=>e z.symm)]
theorem ZnQ{m:Nat}{R:List (List κ.F)}{q j i:Nat}(wd:Wid m R)(hq:q<R.length)(hi:i<R.length)(ne:i≠q)(p:ent R q j≠0)(u:Nat->κ.F):Ker (R.set i (elS R q j i)) R.length m u↔Ker R R.length m u:=by
  have row:∀i',i'<R.length->Zb3 (ent (R.set i (elS R q j i)) i') u m=if i'=i then ent R q j*Zb3 (ent R i) u m-ent R i j*Zb3 (ent R q) u m else Zb3 (ent R i') u m:=λi' _=>by
    by_cases e:i'=i
    · rw[if_pos e,<-ZcB,<-ZcB]
      have:∀c,c<m->ent (R.set i (elS R q j i)) i' c=ent R q j*ent R i c+(0-ent R i j)*ent R q c:=λc hc=>by
        rw[Zde hi,if_pos e,Zlc wd hq hi hc]; grind
      rw[ZfX this,Zgt]
      have z:Zb3 (λj_1=>(0-ent R i j)*ent R q j_1) u m=0-Zb3 (λj_1=>ent R i j*ent R q j_1) u m:=by
        rw[ZcB,ZcB]; grind
      rw[z]; grind
    · rw[if_neg e]
      exact ZfX λc _=>by rw[Zde hi,if_neg e]
  constructor
  · intro k
    have kq:=k q hq
    rw[row q hq,if_neg (λz=>ne z.symm)] at kq
    intro i' hi'
    by_cases e:i'=i
    · have:=k i hi
      rw[row i hi,if_pos rfl,kq] at this
      rw[e]
      exact Zfo p (by grind)
    · have:=k i' hi'
      rw[row i' hi',if_neg e] at this
      exact this
  · intro k i' hi'
    rw[row i' hi']
    split
    · rw[k i hi,k q hq]; grind
    · exact k i' hi'
theorem Wek.stepS{m:Nat}{R R2:List (List κ.F)}{n j a:Nat}{ls:List Nat}(h:Wek R n j ls)(hn:R.length=n)(jm:j<m)(qa:ls.length<=a)(ha:a<n)(p:ent R a j≠0)
    (e1:∀i≤ls.length,∀c<m,ent R2 i c=ent (swM R ls.length a) i c)
    (e2:∀i,ls.length<i->i<n->(∀c<m,ent R2 i c=ent R a j*ent (swM R ls.length a) i c-ent (swM R ls.length a) i j*ent R a c)\/(ent (swM R ls.length a) i j=0/\∀c<m,ent R2 i c=ent (swM R ls.length a) i c)):Wek R2 n (j+1) (ls++[j]):=by
  have g:∀i c,ent (swM R ls.length a) i c=if i=ls.length then ent R a c else if i=a then ent R ls.length c else ent R i c:=Zii ⋯ ⋯
  have gl:∀k,k<ls.length->(ls++[j]).getD k 0=ls.getD k 0:=λk hk=>by
    rw[Q3,Wi hk,<-Q3]
  have gq:(ls++[j]).getD ls.length 0=j:=by
    rw[Q3,Ws (Q4 _),Ud]; rfl
  have ll:(ls++[j]).length=ls.length+1:=by rw[Qb]; rfl
  refine ⟨⋯,λk hk=>?_,λk k' kk hk=>?_,λk hk=>?_,λk hk c hc=>?_,λi hi hin c hc=>?_⟩
  · by_cases e:k=ls.length
    · rw[e,gq]; omega
    · rw[gl k ⋯]; have:=h.lt k ⋯; omega
  · by_cases e:k'=ls.length
    · rw[e,gq,gl k ⋯]; exact h.lt k ⋯
    · rw[gl k ⋯,gl k' ⋯]; exact h.inc k k' kk ⋯
  · by_cases e:k=ls.length
    · rw[e,gq,e1 _ (Q4 _) j jm,g,if_pos rfl]; exact p
    · have:=h.lt k ⋯
      rw[gl k ⋯,e1 k ⋯ _ ⋯,g,if_neg e,if_neg ⋯]; exact h.piv k ⋯
  · by_cases e:k=ls.length
    · rw[e,gq] at hc
      rw[e,e1 _ (Q4 _) c ⋯,g,if_pos rfl]
      exact h.out a qa ha c hc
    · rw[gl k ⋯] at hc
      have:=h.lt k ⋯
      rw[e1 k ⋯ c ⋯,g,if_neg e,if_neg ⋯]; exact h.pre k ⋯ c hc
  · rw[ll] at hi
    have z1:∀c,c<j->ent (swM R ls.length a) i c=0:=λc hc=>by
      rw[g,if_neg ⋯]
      split
      · exact h.out _ (Q4 _) ⋯ c hc
      · exact h.out _ ⋯ hin c hc
    rcases e2 i ⋯ hin with w | ⟨w0,w⟩
    · rw[w c ⋯]
      by_cases e:c=j
      · rw[e]; grind
      · rw[z1 c ⋯,h.out a qa ha c ⋯]; grind
    · rw[w c ⋯]
      by_cases e:c=j
      · rw[e]; exact w0
      · exact z1 c ⋯
theorem Zma{n m:Nat}{ls:List Nat}{R:List (List κ.F)}(hn:R.length=n)(wd:Wid m R)(h:Wek R n m ls):∃R':List (List κ.F),(∀u,Ker R' n m u↔Ker R n m u)/\Ech R' n m ls 1:=by
  obtain ⟨ts,ok,hw,hc⟩:=Zlb ls.length (Q4 _) hn wd h
  refine ⟨ZcJ ts R,λu=>?_,⟨hw.le,hw.lt,hw.inc,λz=>Fd.zne z.symm,hc,hw.out,hw.pre⟩⟩
  have:=ZiB (v:=u) (ts:=ts) wd (by rw[hn]; exact ok)
  rw[hn] at this
  exact this
def yM:Nat->Nat
  | 0=>10^8
  | q+1=>2*(yM q*yM q)
def yD(q:Nat):Nat:=1728^(2^q)
def RowY(κ:KX)(q:Nat)(f:List κ.F):Prop:=∃D M:Nat,0<D/\D<=yD q/\M<=yM q/\∀x∈f,QN κ (D:Int) M x
theorem ZpE(q:Nat):yD q<=yD (q+1):=Qd ∅ (Qd ∅ (Ut q))
theorem Zld:∀q,0<yM q
  | 0=>by show 0<10^8; decide
  | q+1=>by
    show 0<2*(yM q*yM q)
    have:=U7 (Zld q) (Zld q)
    omega
theorem ZpF(q:Nat):yM q<=yM (q+1):=by
  show yM q<=2*(yM q*yM q)
  have:=Nat.le_mul_of_pos_right (yM q) (Zld q)
  omega
theorem RowY.up{q:Nat}{f:List κ.F}(h:RowY κ q f):RowY κ (q+1) f:=by
  obtain ⟨D,M,a,b,c,d⟩:=h
  exact ⟨D,M,a,Q0 b (ZpE q),Q0 c (ZpF q),d⟩
theorem yB{q:Nat}(h:q<=3):yD q<=10^200/\yM q<=10^500:=by
  obtain rfl | rfl | rfl | rfl:q=0\/q=1\/q=2\/q=3:=by omega
  · exact ⟨∅,∅⟩
  · exact ⟨∅,∅⟩
  · exact ⟨∅,∅⟩
  · exact ⟨∅,∅⟩
theorem RowY.b1{q:Nat}{f:List κ.F}(h:RowY κ q f)(hq:κ = .q->q<=3):∀x∈f,B1 κ x:=λx hx=>by
  cases κ with
  | r p hp=>exact trivial
  | q =>
    obtain ⟨D,M,a,b,c,d⟩:=h
    have y:=yB (hq rfl)
    exact ZbM a (Q0 b y.1) (Q0 c y.2) (d x hx)
theorem RowY.step{q:Nat}{f g:List κ.F}(hf:RowY κ q f)(hg:RowY κ q g)(hq:κ = .q->q<=2){a b:κ.F}(ha:a∈g)(hb:b∈f) :
    RowY κ (q+1) (List.zipWith (λx y=>a*x-b*y) f g)/\(∀x∈f,B1 κ (a*x))/\∀y∈g,B1 κ (b*y):=by
  obtain ⟨D,M,d0,d1,m1,qf⟩:=hf
  obtain ⟨E,N,e0,e1,n1,qg⟩:=hg
  have p1:∀x∈f,QN κ ((D*E:Nat):Int) (M*N) (a*x):=λx hx=>by
    have:=QN.mulN (qg a ha) (qf x hx)
    rwa [W7 E D,W7 N M] at this
  have p2:∀y∈g,QN κ ((D*E:Nat):Int) (M*N) (b*y):=λy hy=>QN.mulN (qf b hb) (qg y hy)
  have de:0<D*E:=U7 d0 e0
  have l1:D*E<=yD (q+1):=by
    refine Q0 (Qm d1 e1) (Nat.le_of_eq ?_)
    unfold yD
    rw[<-U0,Wc,Nat.mul_two]
  have l2:M*N+M*N<=yM (q+1):=by
    have:=Qm m1 n1
    show _<=2*(yM q*yM q)
    omega
  have b1:∀z:κ.F,QN κ ((D*E:Nat):Int) (M*N) z->B1 κ z:=λz hz=>by
    cases κ with
    | r p hp=>exact trivial
    | q =>
      have y:=yB (q:=q+1) (by have:=hq rfl; omega)
      exact ZbM de (Q0 l1 y.1) (Q0 (show M*N<=yM (q+1) by omega) y.2) hz
  refine ⟨⟨D*E,M*N+M*N,de,l1,l2,λz hz=>?_⟩,λx hx=>b1 _ (p1 x hx),λy hy=>b1 _ (p2 y hy)⟩
  obtain ⟨x,hx,y,hy,rfl⟩:=Zfk hz
  exact QN.sub ⋯ (p1 x hx) (p2 y hy)
end
theorem Zle{b:Bool}{A B:Prop}(h1:b=true->A)(h0:b=false->B):if b=true then A else B:=by
  cases b with
  | true=>exact h1 rfl
  | false=>exact h0 rfl
inductive ZdB (vs:List V) (H:Hp) (Q:VK) (zE:XK):Prop
  | mk (κ:KX) (a:Addr) (rs:List Addr) (G:List (List κ.F)) (n m:Nat) (_:vs=[.int κ.P,.ref a]) (_:H a=some (.lst (rs.map V.ref))) (_:RowsX κ H rs G) (_:G.length=n) (_:Wid m G) (_:1<=n) (_:n<=100) (_:m<=7) (_:(κ = .q->m<=3)) (_:AllR (QN κ ((1728:Nat):Int) (10^8)) G) (_:∀(H':Hp) (R:List (List κ.F)) (ls:List Nat),Same H H'->(∀u,Ker R n m u↔Ker G n m u)->Ech R n m ls 1->Q (.int (ls.length:Int)) H'):ZdB vs H Q zE
end My
namespace My
open PySem L2 PyProof.Rows
section
variable{P:Program}{w:World}{K:PySem.W.Frag}{mg:Str->Option Value}{base:Heap}
theorem sc_l_ranked:FnScope ["_law_prime_here", "_law_rows", "_law_nought", "_law_many", "_law_j", "_law_at", "_law_top", "_law_i", "_law_by", "_law_left", "_law_right_here"] ["_law_prime_here", "_law_rows"] (Zah Zd1):=‹2›
theorem Zij(h:Here K mg "_law_ranked" Zd1) (T:Nm mg) (h_l_make:Has P w K mg base "_law_make" 4 ["_law_prime_here", "_law_number"] Zbj) (h_l_times:Has P w K mg base "_law_times" 4 ["_law_prime_here", "_law_one", "_law_other"] (Zbf λ_ x y=>x*y)) (h_l_minus:Has P w K mg base "_law_minus" 4 ["_law_prime_here", "_law_one", "_law_other"] (Zbf λ_ x y=>x-y)):Has P w K mg base "_law_ranked" 5 ["_law_prime_here", "_law_rows"] ZdB:=by
  refine h.has (λf fd F=>F.binds λ_ _ _ _ _ _ us hl=>by obtain ⟨_,_,rfl⟩:=ZdJ hl; exact rfl) λf fd F=>F.ok sc_l_ranked (λvs H Q E h=>?_) (λcdv A outer s H vs Q E hr h=>?_)
  · obtain ⟨_,_,_,_,_,_,rfl,_⟩:=h
    rfl
  obtain ⟨κ,a,rs,G,n,m,rfl,hT,rA,lA,wA,n1,n100,m7,m3,qA,k⟩:=h
  have nd:=sc_l_ranked.nd
  refine ⟨_,(Zab (Zaj (i:=2) nd rfl (Or.inl rfl) (Zan h_l_make hr (by rfl) (Zaa (pv 0) (Zaa Zad Zac))))
    (Zab (Zcf (i:=1) ["_law_row"] [] nd rfl rfl rfl (ZaC (pv 1)) (by exact λ_ _ _ _=>(Zar (i:=0) (show (["_law_row"]:List Str).Nodup by decide +kernel) rfl (Or.inl rfl))) (by exact λ_ _ _ _=>(Zbc (Zbn K rfl) (by rfl) T.list boot_list (Zaa (pv 0) Zac))) trivial)
    (Zab (Zaj (i:=3) nd rfl (Or.inl rfl) Zad)
    (Zab (ZaI PassesOwn.never rfl (Zay (by rfl) T.range (Zaa (Zak Zai (by rfl) T.len boot_len (Zaa (Zam Zau (pv 1) Zad (λ_ _=>rfl)) Zac)) Zac)) (Zar (i:=4) nd rfl (Or.inr rfl)) (Zab (Zaj (i:=5) nd rfl (Or.inl rfl) (pv 3))
      (Zab (ZbN PassesOwn.never (ZfM (Zap ZdW (pv 5) (Zak Zai (by rfl) T.len boot_len (Zaa (pv 1) Zac)) (Zas _)) (ZdV (Zap (Zkg hr) (Zam Zau (Zam Zau (pv 1) (pv 5) (λ_ _=>rfl)) (pv 4) (λ_ _=>rfl)) (pv 2) (Zas _)))).pt (Zae (Zaj (i:=5) nd rfl (Or.inl rfl) (Zao Za0 (pv 5) Zad))))
      (Zae (ZaB (Zap ZdW (pv 5) (Zak Zai (by rfl) T.len boot_len (Zaa (pv 1) Zac)) (Zas _)) (Zab (Zaj (i:=6) nd rfl (Or.inr rfl) (Zam Zau (pv 1) (pv 5) (λ_ _=>rfl)))
        (Zab (Zes (Zam Zau (pv 1) (pv 3) (λ_ _=>rfl)) (Zer (pv 1) (pv 5) ZbY))
        (Zab (Zes (pv 6) (Zer (pv 1) (pv 3) ZbY))
        (Zab (ZaI PassesOwn.never rfl (ZeO (by rfl) T.range (Zaa (Zao Za0 (pv 3) Zad) (Zaa (Zak Zai (by rfl) T.len boot_len (Zaa (pv 1) Zac)) Zac))) (Zar (i:=7) nd rfl (Or.inl rfl)) (Zab (Zaj (i:=8) nd rfl (Or.inr rfl) (Zam Zau (Zam Zau (pv 1) (pv 7) (λ_ _=>rfl)) (pv 4) (λ_ _=>rfl)))
          (Zae (ZaB (Zap (Zkh hr) (pv 8) (pv 2) (Zas _)) (Zab (Zaj (i:=9) nd rfl (Or.inr rfl) (ZaX ["_law_one"] [(0, "_law_prime_here"),(6, "_law_top"),(4, "_law_j")] rfl (ZaC (Zam Zau (pv 1) (pv 7) (λ_ _=>rfl))) (by exact λ_ _ _ _=>(Zar (i:=0) (show (["_law_one", "_law_prime_here", "_law_top", "_law_j"]:List Str).Nodup by decide +kernel) rfl (Or.inl rfl))) (by exact λ_ _ _ _=>(Zan h_l_times hr (by rfl) (Zaa (pv 1) (Zaa (Zam (Zdb K rfl) (pv 2) (pv 3) (λ_ _=>rfl)) (Zaa (pv 0) Zac))))) ⟨⟨rfl,rfl,Or.inl rfl⟩,⟨⟨rfl,rfl,Or.inl rfl⟩,⟨⟨rfl,rfl,Or.inl rfl⟩,trivial⟩⟩⟩))
            (Zab (Zaj (i:=10) nd rfl (Or.inr rfl) (ZaX ["_law_one"] [(0, "_law_prime_here"),(8, "_law_by")] rfl (ZaC (pv 6)) (by exact λ_ _ _ _=>(Zar (i:=0) (show (["_law_one", "_law_prime_here", "_law_by"]:List Str).Nodup by decide +kernel) rfl (Or.inl rfl))) (by exact λ_ _ _ _=>(Zan h_l_times hr (by rfl) (Zaa (pv 1) (Zaa (pv 2) (Zaa (pv 0) Zac))))) ⟨⟨rfl,rfl,Or.inl rfl⟩,⟨⟨rfl,rfl,Or.inl rfl⟩,trivial⟩⟩))
            (Zae (Zes (ZaX ["_law_k"] [(0, "_law_prime_here"),(9, "_law_left"),(10, "_law_right_here")] rfl (Zay (by rfl) T.range (Zaa (Zak Zai (by rfl) T.len boot_len (Zaa (pv 6) Zac)) Zac)) (by exact λ_ _ _ _=>(Zar (i:=0) (show (["_law_k", "_law_prime_here", "_law_left", "_law_right_here"]:List Str).Nodup by decide +kernel) rfl (Or.inl rfl))) (by exact λ_ _ _ _=>(Zan h_l_minus hr (by rfl) (Zaa (pv 1) (Zaa (Zam (Zdb K rfl) (pv 2) (pv 0) (λ_ _=>rfl)) (Zaa (Zam (Zdb K rfl) (pv 3) (pv 0) (λ_ _=>rfl)) Zac))))) ⟨⟨rfl,rfl,Or.inl rfl⟩,⟨⟨rfl,rfl,Or.inl rfl⟩,⟨⟨rfl,rfl,Or.inl rfl⟩,trivial⟩⟩⟩) (Zer (pv 1) (pv 7) ZbY))))) Zat))))
        (Zae (Zaj (i:=3) nd rfl (Or.inl rfl) (Zao Za0 (pv 3) Zad))))))) Zat)))))
    (Zae (Zal (pv 3))))))),?_⟩
  have lr:=rA.1
  have z0:∀i,i<n->RowY κ 0 (G.getD i []):=λi hi=>⟨1728,10^8,∅,∅,∅,λx hx=>qA.getD i x hx⟩
  refine ⟨_,rfl,κ,0,0,rfl,ZfA,λH0 v0 S0 n0=>?_⟩
  refine ⟨_,rfl,a,rfl,⟨_,SqL.of (S0 _ _ hT)⟩,?_⟩
  refine ZaL (K:=K) (a:=a) (xs:=rs.map V.ref) (λi ys H2=>∃cs:List Addr,ys=cs.map V.ref/\Same H0 H2/\RowsX κ H2 cs (G.take i)) (by rw[Q1]; omega) ⟨[],rfl,Same.refl H0,by rw[W9]; exact .nil⟩ (λi ys H2 _ ⟨as,_,S,_⟩=>SqL.of ((S0.trans S) _ _ hT)) ?_ ?_
  · rintro i x ys H2 hx hl ⟨cs,rfl,S,ra⟩
    obtain ⟨b,hb,rfl⟩:=Zaw hx
    obtain ⟨f,hf⟩:=Zax hb lr
    obtain ⟨xs,hxs,fl⟩:=rA.2 i b f hb hf
    have S02:=S0.trans S
    refine ⟨_,rfl,b,xs,rfl,.inl (SqL.of (S02 _ _ hxs)),λl nl=>?_⟩
    have Sl:=Zag nl (.lst xs)
    refine ⟨cs++[l],by rw[Qn]; rfl,S.trans Sl,?_⟩
    rw[Qq,hf]
    exact (ra.same Sl).snoc Zaf (fl.mono λ_ _ n=>n.same (S02.trans Sl))
  rintro ys H1 hl ⟨cs,rfl,S1,rc⟩ rl nrl1
  have nrl0:H0 rl=none:=S1.free nrl1
  have nrl:H rl=none:=S0.free nrl0
  have nin:=rc.notin nrl1
  rw[Q1,lr,Qz] at rc
  have Srl:=Zag nrl1 (.lst (cs.map V.ref))
  have qrl:=Zaf (H:=H1) (a:=rl) (o:=.lst (cs.map V.ref))
  generalize upd H1 rl (.lst (cs.map V.ref))=H2 at *
  have S2:=S0.trans (S1.trans Srl)
  have n2:=n0.same (S1.trans Srl)
  have rc2:=rc.same Srl
  clear S1 Srl nrl1 rc hl n0
  obtain ⟨a0,x0,g0,hx0,al0⟩:=rc2.get (i:=0) ⋯
  have lx0:x0.length=m:=by rw[al0.1]; exact wA _ (Qf _)
  refine ⟨_,rfl,rl,_,0,_,rfl,rfl,SqL.of qrl,Zbi (i:=0) g0,a0,_,rfl,.inl (SqL.of hx0),_,rfl,?_⟩
  rw[lx0]
  refine ⟨⋯,⋯,?_⟩
  rw[Q6]
  refine ZaG (lo:=0) (n:=m) (λj σ H3=>∃(z4 z5 z6 z7 z8 z9 z10:Option V) (ds:List Addr) (R:List (List κ.F)) (ls:List Nat),σ=[some (.int κ.P),some (.ref rl),some v0,some (.int (ls.length:Int)),z4,z5,z6,z7,z8,z9,z10]/\NR κ H3 v0 0/\Same H H3/\H3 rl=some (.lst (ds.map V.ref))/\rl∉ds/\RowsX κ H3 ds R/\R.length=n/\Wid m R/\Wek R n j ls/\ls.length<=j/\(∀u,Ker R n m u↔Ker G n m u)/\∀i,i<n->RowY κ ls.length (R.getD i [])) ⟨_,_,_,_,_,_,_,cs,G,[],rfl,n2,S2,qrl,nin,rc2,lA,wA,ZnK,Q4 _,(λu=>Iff.rfl),z0⟩ ?_ ?_
  · rintro j σ H3 hj ⟨z4,z5,z6,z7,z8,z9,z10,ds,R,ls,rfl,nv3,S3,hR,nid,rx,lR,wR,wk,lj,kr,rz⟩
    have ld:=rx.1
    have lq:=wk.le
    have q2:κ = .q->ls.length<=2:=λe=>by have:=m3 e; omega
    refine ⟨_,rfl,?_⟩
    refine ⟨λmm σ H4=>∃t:Nat,mm=n-t/\σ=[some (.int κ.P),some (.ref rl),some v0,some (.int (ls.length:Int)),some (.int (0+(j:Int))),some (.int (t:Int)),z6,z7,z8,z9,z10]/\H3=H4/\ls.length<=t/\t<=n/\∀i,ls.length<=i->i<t->ent R i j=0,⟨_,ls.length,rfl,rfl,rfl,Q4 _,lq,λi a b=>by omega⟩,?_⟩
    rintro mm σ H4 ⟨t,rfl,rfl,rfl,qt,tn,zs⟩
    refine ⟨_,rfl,_,rfl,rl,_,rfl,.inl (SqL.of hR),_,_,rfl,rfl,_,rfl,?_⟩
    rw[Q1,ld,lR]
    refine Zbq (λz=>?_) (λz=>?_)
    case refine_2 =>
      have et:t=n:=by have:¬(t:Int)<(n:Int):=z; omega
      refine Zc7 ?_
      refine ⟨_,rfl,_,rfl,rl,_,rfl,.inl (SqL.of hR),_,_,rfl,rfl,_,rfl,?_⟩
      rw[Q1,ld,lR]
      refine ZcW (show ¬(t:Int)<(n:Int) by omega) ?_
      exact ⟨_,_,_,_,_,_,_,ds,R,ls,rfl,nv3,S3,hR,nid,rx,lR,wR,wk.skip (λi a b=>zs i a ⋯),⋯,kr,rz⟩
    have tn':t<n:=by have:(t:Int)<(n:Int):=z; omega
    obtain ⟨b1,ys1,v,e1,e2,e3,e4⟩:=rx.ent wR (i:=t) (j:=j) ⋯ hj
    obtain ⟨bb,eb,be⟩:=Zjj e4 nv3
    refine ⟨_,rfl,_,rfl,rl,_,_,_,rfl,rfl,SqL.of hR,Zbi e1,_,rfl,b1,_,_,_,rfl,rfl,SqL.of e2,(by rw[Qc]; exact ZaF e3),_,rfl,bb,eb,_,rfl,?_⟩
    refine Zle (λzz=>?_) (λzz=>?_)
    · refine ⟨_,λ_ _ h=>h,?_⟩
      refine ⟨_,rfl,_,_,rfl,rfl,?_⟩
      exact ⟨_,(by show n-(t+1)<n-t; omega),t+1,rfl,rfl,rfl,⋯,⋯,λi a b=>by
        by_cases e:i=t
        · rw[e]; exact be.mp zz
        · exact zs i a ⋯⟩
    have pv0:ent R t j≠0:=λq=>by
      have:=be.mpr q
      rw[this] at zz
      exact absurd zz ∅
    refine ⟨_,rfl,_,rfl,rl,_,rfl,.inl (SqL.of hR),_,_,rfl,rfl,_,rfl,?_⟩
    rw[Q1,ld,lR]
    refine Zcy (show (t:Int)<(n:Int) by omega) ?_
    obtain ⟨dq,xq,gq,hxq,alq⟩:=rx.get (i:=ls.length) ⋯
    obtain ⟨dt,xt,gt,hxt,alt⟩:=rx.get (i:=t) ⋯
    rw[e1] at gt
    cases gt
    refine ⟨_,rfl,_,rfl,rl,_,_,_,rfl,rfl,SqL.of hR,Zbi e1,?_⟩
    refine ⟨_,rfl,_,rfl,rl,_,_,_,rfl,rfl,SqL.of hR,Zbi gq,_,rfl,_,rfl,rl,ds.map V.ref,_,t,rfl,rfl,hR,Zfc (by rw[Q1]; omega),?_⟩
    have O4:Off [rl] H3 (upd H3 rl (.lst ((ds.map V.ref).set t (.ref dq)))):=ZaH (Same.refl H3)
    have q4:=Zaf (H:=H3) (a:=rl) (o:=.lst ((ds.map V.ref).set t (.ref dq)))
    generalize upd H3 rl (.lst ((ds.map V.ref).set t (.ref dq)))=H4 at *
    refine ⟨_,rfl,_,rfl,_,rfl,rl,_,_,ls.length,rfl,rfl,q4,Zfc (by rw[Qw,Q1]; omega),?_⟩
    have em:((ds.map V.ref).set t (.ref dq)).set ls.length (.ref b1)=((ds.set t dq).set ls.length b1).map V.ref:=by rw[List.map_set,List.map_set]
    rw[em]
    have O5:Off [rl] H4 (upd H4 rl (.lst (((ds.set t dq).set ls.length b1).map V.ref))):=ZaH (Same.refl H4)
    have q5:=Zaf (H:=H4) (a:=rl) (o:=.lst (((ds.set t dq).set ls.length b1).map V.ref))
    generalize upd H4 rl (.lst (((ds.set t dq).set ls.length b1).map V.ref))=H5 at *
    have O35:Off [rl] H3 H5:=λb o hb q=>O5 b o hb (O4 b o hb q)
    have S5:Same H H5:=Off.same O35 S3 (λz hz=>by rw[Q5.mp hz]; exact nrl)
    have nv5:=nv3.off hR O35
    have nmem:∀i x,ds[i]?=some x->x≠rl:=λi x hx z=>nid (by rw[<-z]; exact Q8 hx)
    have rx5:RowsX κ H5 ((ds.set t dq).set ls.length b1) (swM R ls.length t):=by
      have rb:=rx.off nid hR O35
      have eq1:R.getD ls.length []=R[ls.length]'⋯:=by rw[Q3,Q2 ⋯]; rfl
      have eq2:R.getD t []=R[t]'⋯:=by rw[Q3,Q2 ⋯]; rfl
      unfold swM
      rw[eq1,eq2]
      exact (rb.set t (O35 _ _ (λz=>nmem _ _ gq (Q5.mp z)) hxq) (alq.mono λ_ _ n=>n.off hR O35)).set ls.length (O35 _ _ (λz=>nmem _ _ e1 (Q5.mp z)) hxt) (alt.mono λ_ _ n=>n.off hR O35)
    have ni5:rl∉(ds.set t dq).set ls.length b1:=λz=>by
      rcases Wf z with y | y
      · rcases Wf y with y | y
        · exact nid y
        · exact nmem _ _ gq y.symm
      · exact nmem _ _ e1 y.symm
    have gm:((ds.set t dq).set ls.length b1)[ls.length]?=some b1:=by
      rw[List.getElem?_set_self (by rw[Qw]; omega)]
    have lM:(swM R ls.length t).length=n:=by rw[ZnL,lR]
    have wM:Wid m (swM R ls.length t):=ZnM ⋯ ⋯ wR
    have kM:∀u,Ker (swM R ls.length t) n m u↔Ker G n m u:=λu=>by
      have:=ZnN (m:=m) (R:=R) (q:=ls.length) (a:=t) ⋯ ⋯ u
      rw[lR] at this
      exact this.trans (kr u)
    have zM:∀i,i<n->RowY κ ls.length ((swM R ls.length t).getD i []):=λi hi=>by
      obtain ⟨i',hi',e⟩:=ZnO (R:=R) (q:=ls.length) (a:=t) ⋯ ⋯ (i:=i) ⋯
      rw[e]; exact rz i' ⋯
    have tq:∀c,ent (swM R ls.length t) ls.length c=ent R t c:=λc=>by rw[Zii ⋯ ⋯,if_pos rfl]
    have lmd:((ds.set t dq).set ls.length b1).length=n:=by rw[Qw,Qw]; omega
    generalize hM:swM R ls.length t=M at *
    generalize (ds.set t dq).set ls.length b1=es0 at *
    clear O4 q4 O5 O35
    refine ⟨_,rfl,_,_,rfl,rfl,_,rfl,rl,_,rfl,.inl (SqL.of q5),_,_,rfl,?_,?_⟩
    · rw[Q1,lmd]
      exact ⟨⋯,⋯,⋯,⋯⟩
    rw[Q1,lmd]
    refine ZaG (lo:=(ls.length:Int)+1) (n:=((n:Int)-((ls.length:Int)+1)).toNat) (λr σ H7=>∃(z7 z8 z9 z10:Option V) (es:List Addr) (R':List (List κ.F)),σ=[some (.int κ.P),some (.ref rl),some v0,some (.int (ls.length:Int)),some (.int (0+(j:Int))),some (.int (t:Int)),some (.ref b1),z7,z8,z9,z10]/\NR κ H7 v0 0/\Same H H7/\H7 rl=some (.lst (es.map V.ref))/\rl∉es/\es[ls.length]?=some b1/\RowsX κ H7 es R'/\R'.length=n/\Wid m R'/\(∀u,Ker R' n m u↔Ker G n m u)/\(∀i,i<n->¬(ls.length<i/\i<ls.length+1+r)->∀c,c<m->ent R' i c=ent M i c)/\(∀i,ls.length<i->i<ls.length+1+r->(∀c<m,ent R' i c=ent M ls.length j*ent M i c-ent M i j*ent M ls.length c)\/(ent M i j=0/\∀c<m,ent R' i c=ent M i c))/\∀i,i<n->RowY κ (if ls.length<i/\i<ls.length+1+r then ls.length+1 else ls.length) (R'.getD i [])) ⟨_,_,_,_,es0,M,rfl,nv5,S5,q5,ni5,gm,rx5,lM,wM,kM,(λi hi _ c hc=>rfl),(λi a b=>by omega),λi hi=>by rw[if_neg ⋯]; exact zM i hi⟩ ?_ ?_
    · rintro r σ H7 hr7 ⟨z7',z8',z9',z10',es,R',rfl,nv7,S7,q7,ni7,g7,rx7,l7,w7,k7,en7,eo7,rz7⟩
      have le7:=rx7.1
      obtain ⟨i,ei⟩:∃i,i=ls.length+1+r:=⟨_,rfl⟩
      have hi:i<n:=by omega
      have ej:((ls.length:Int)+1+(r:Int))=((i:Nat):Int):=by omega
      obtain ⟨c1,xs1,v1,f1,f2,f3,f4⟩:=rx7.ent w7 (i:=i) (j:=j) ⋯ hj
      obtain ⟨gi,hgi⟩:∃gi,R'[i]?=some gi:=⟨R'[i]'⋯,Q2 ⋯⟩
      obtain ⟨gq',hgq⟩:∃gq,R'[ls.length]?=some gq:=⟨R'[ls.length]'⋯,Q2 ⋯⟩
      obtain ⟨xs1',hx1',al1⟩:=rx7.2 i c1 gi f1 hgi
      rw[f2] at hx1'
      cases hx1'
      obtain ⟨xs2,h2',al2⟩:=rx7.2 ls.length b1 gq' g7 hgq
      have lgi:=w7 gi (Q8 hgi)
      have lgq:=w7 gq' (Q8 hgq)
      have lx1:=al1.1
      have lx2:=al2.1
      have eqj:∀c,c<m->ent R' ls.length c=ent M ls.length c:=λc hc=>en7 _ ⋯ ⋯ c hc
      have eij:∀c,c<m->ent R' i c=ent M i c:=λc hc=>en7 _ hi ⋯ c hc
      have gdi:R'.getD i []=gi:=ZaO hgi
      have gdq:R'.getD ls.length []=gq':=ZaO hgq
      obtain ⟨bb,eb,be⟩:=Zjj f4 nv7
      refine ⟨_,rfl,_,rfl,rl,_,_,_,rfl,rfl,SqL.of q7,(by rw[ej]; exact Zbi f1),_,rfl,c1,_,_,_,rfl,rfl,SqL.of f2,(by rw[Qc]; exact ZaF f3),?_⟩
      refine ⟨_,rfl,_,rfl,bb,eb,_,rfl,?_⟩
      cases bb with
      | true =>
        refine Zc7 ?_
        have z:=be.mp rfl
        refine ⟨_,_,_,_,es,R',rfl,nv7,S7,q7,ni7,g7,rx7,l7,w7,k7,(λi' a b=>en7 i' a ⋯),(λi' a b=>?_),λi' hi'=>?_⟩
        · by_cases e:i'=i
          · rw[e]
            exact .inr ⟨by rw[<-eij j hj]; exact z,eij⟩
          · exact eo7 i' a ⋯
        · have:=rz7 i' hi'
          by_cases q:ls.length<i'/\i'<ls.length+1+r
          · rw[if_pos q] at this
            rw[if_pos ⋯]; exact this
          · rw[if_neg q] at this
            split
            · exact this.up
            · exact this
      | false =>
        refine ZjY ?_
        have zi:=rz7 i hi
        rw[if_neg ⋯,gdi] at zi
        have zq:=rz7 ls.length ⋯
        rw[if_neg ⋯,gdq] at zq
        have ha:ent R' ls.length j∈gq':=by rw[<-gdq]; exact ZhY w7 ⋯ hj
        have hb:ent R' i j∈gi:=by rw[<-gdi]; exact ZhY w7 ⋯ hj
        obtain ⟨zst,bxl,byr⟩:=RowY.step zi zq q2 ha hb
        have b1i:=zi.b1 (λe=>by have:=q2 e; omega)
        have b1q:=zq.b1 (λe=>by have:=q2 e; omega)
        obtain ⟨b1',ysq,vq,m1,m2,m3',m4⟩:=rx7.ent w7 (i:=ls.length) (j:=j) ⋯ hj
        rw[g7] at m1
        cases m1
        refine ⟨_,rfl,_,rfl,rl,_,_,_,rfl,rfl,SqL.of q7,(by rw[ej]; exact Zbi f1),c1,rfl,⟨_,SqL.of f2⟩,?_⟩
        refine ZaL (K:=K) (a:=c1) (xs:=xs1) (λq zs H8=>Same H7 H8/\AllG (NR κ H8) zs ((gi.map λx=>ent R' ls.length j*x).take q)) ⋯ ⟨Same.refl H7,by rw[W9]; exact .nil⟩ (λq zs H8 _ c=>SqL.of (c.1 _ _ f2)) ?_ ?_
        · rintro q u zs H8 hu _ ⟨S8,az⟩
          obtain ⟨x,hx,nx⟩:=al1.get hu
          refine ⟨_,rfl,_,rfl,_,rfl,b1,_,_,_,rfl,rfl,SqL.of (S8 _ _ m2),(by rw[Qc]; exact ZaF m3'),_,rfl,κ,vq,u,_,x,rfl,m4.same S8,nx.same S8,b1q _ ha,b1i x (Q8 hx),λH9 w9 S9 n9=>⟨S8.trans S9,?_⟩⟩
          rw[Qq,Qa,hx]
          exact (az.mono λ_ _ n=>n.same S9).append (.one n9)
        rintro zs1 H8 _ ⟨S8,az1⟩ La nLa
        rw[Wy (by rw[Q1]; omega)] at az1
        have SL:=Zag nLa (.lst zs1)
        have qL:=Zaf (H:=H8) (a:=La) (o:=.lst zs1)
        generalize upd H8 La (.lst zs1)=H9 at *
        have S79:=S8.trans SL
        refine ⟨_,rfl,b1,rfl,⟨_,SqL.of (S79 _ _ h2')⟩,?_⟩
        refine ZaL (K:=K) (a:=b1) (xs:=xs2) (λq zs H10=>Same H9 H10/\AllG (NR κ H10) zs ((gq'.map λy=>ent R' i j*y).take q)) ⋯ ⟨Same.refl H9,by rw[W9]; exact .nil⟩ (λq zs H10 _ c=>SqL.of ((S79.trans c.1) _ _ h2')) ?_ ?_
        · rintro q u zs H10 hu _ ⟨S10,az⟩
          obtain ⟨y,hy,ny⟩:=al2.get hu
          have S710:=S79.trans S10
          refine ⟨_,rfl,_,rfl,_,rfl,κ,v1,u,_,y,rfl,f4.same S710,ny.same S710,b1i _ hb,b1q y (Q8 hy),λH11 w11 S11 n11=>⟨S10.trans S11,?_⟩⟩
          rw[Qq,Qa,hy]
          exact (az.mono λ_ _ n=>n.same S11).append (.one n11)
        rintro zs2 H10 _ ⟨S10,az2⟩ Ra nRa
        rw[Wy (by rw[Q1]; omega)] at az2
        have SR:=Zag nRa (.lst zs2)
        have qR:=Zaf (H:=H10) (a:=Ra) (o:=.lst zs2)
        generalize upd H10 Ra (.lst zs2)=H11 at *
        have S911:=S10.trans SR
        have S711:=S79.trans S911
        have qL11:=S911 _ _ qL
        have az1':=az1.mono λ_ _ n=>n.same (SL.trans S911)
        have az2':=az2.mono λ_ _ n=>n.same SR
        have lz1:=az1.1
        have lz2:=az2.1
        rw[Q1] at lz1 lz2
        refine ⟨_,rfl,b1,_,rfl,.inl (SqL.of (S711 _ _ h2')),(xs2.length:Int),rfl,⋯,⋯,?_⟩
        rw[Q6]
        refine Zbu (lo:=0) (n:=xs2.length) (λq zs H12=>Same H11 H12/\AllG (NR κ H12) zs ((List.zipWith (λx y=>ent R' ls.length j*x-ent R' i j*y) gi gq').take q)) ⋯ ⟨Same.refl H11,by rw[W9]; exact .nil⟩ ?_ ?_
        · rintro q zs H12 hq _ ⟨S12,az⟩
          obtain ⟨u,hu,nu⟩:=az1'.get' (i:=q) (by rw[Q1]; omega)
          obtain ⟨v,hv,nv⟩:=az2'.get' (i:=q) (by rw[Q1]; omega)
          rw[List.getElem_map] at nu nv
          have mx:gi[q]'⋯∈gi:=Qf _
          have my:gq'[q]'⋯∈gq':=Qf _
          refine ⟨_,rfl,_,rfl,_,rfl,La,_,_,u,rfl,rfl,SqL.of (S12 _ _ qL11),(by rw[Qc]; exact ZaF hu),_,rfl,_,rfl,Ra,_,_,v,rfl,rfl,SqL.of (S12 _ _ qR),(by rw[Qc]; exact ZaF hv),κ,u,v,_,_,rfl,nu.same S12,nv.same S12,bxl _ mx,byr _ my,λH14 w14 S14 n14=>⟨S12.trans S14,?_⟩⟩
          rw[Qq,List.getElem?_zipWith,Q2 (show q<gi.length by omega),Q2 (show q<gq'.length by omega)]
          exact (az.mono λ_ _ n=>n.same S14).append (.one n14)
        rintro zs H12 _ ⟨S12,az⟩ D nD8
        have lz:(List.zipWith (λx y=>ent R' ls.length j*x-ent R' i j*y) gi gq').length=m:=by rw[Uc]; omega
        rw[Wy ⋯] at az
        have S712:=S711.trans S12
        have nD7:=S712.free nD8
        have nDl:D≠rl:=λz=>by rw[z,q7] at nD7; cases nD7
        have SD:=Zag nD8 (.lst zs)
        have qD:=Zaf (H:=H12) (a:=D) (o:=.lst zs)
        generalize upd H12 D (.lst zs)=H13 at *
        have S713:=S712.trans SD
        have q9:=S713 _ _ q7
        refine ⟨_,rfl,_,rfl,rl,es.map V.ref,_,i,rfl,rfl,q9,(by rw[ej]; exact Zfc (by rw[Q1]; omega)),?_⟩
        have O10:Off [rl] H13 (upd H13 rl (.lst ((es.map V.ref).set i (.ref D)))):=ZaH (Same.refl H13)
        have eR:elS R' ls.length j i=List.zipWith (λx y=>ent R' ls.length j*x-ent R' i j*y) gi gq':=by
          unfold elS
          rw[gdi,gdq]
        have nzq:ent R' ls.length j≠0:=by rw[eqj j hj,tq]; exact pv0
        have kE:∀u,Ker (R'.set i (elS R' ls.length j i)) n m u↔Ker G n m u:=λu=>by
          have:=ZnQ (j:=j) w7 (show ls.length<R'.length by omega) (show i<R'.length by omega) ⋯ nzq u
          rw[l7] at this
          exact this.trans (k7 u)
        refine ⟨_,_,_,_,es.set i D,R'.set i (elS R' ls.length j i),rfl,(nv7.same S713).off q9 O10,Off.same O10 (S7.trans S713) (λz hz=>by rw[Q5.mp hz]; exact nrl),by rw[Zaf,List.map_set],(λz=>?_),?_,?_,by rw[Qw]; exact l7,?_,kE,(λi' a b c hc=>?_),(λi' a b=>?_),λi' hi'=>?_⟩
        · rcases Wf z with q | q
          · exact ni7 q
          · exact nDl q.symm
        · rw[List.getElem?_set_ne ⋯]; exact g7
        · refine ((rx7.same S713).off ni7 q9 O10).set i (O10 _ _ (λz=>nDl (Q5.mp z)) qD) ?_
          rw[eR]
          exact az.mono λ_ _ n=>(n.same SD).off q9 O10
        · intro f' hf'
          rcases Wf hf' with q | q
          · exact w7 f' q
          · rw[q]; exact ZnP w7 ⋯ ⋯
        · rw[Zde ⋯,if_neg ⋯]; exact en7 i' a ⋯ c hc
        · by_cases e:i'=i
          · refine .inl λc hc=>?_
            rw[e,Zde ⋯,if_pos rfl,Zlc w7 ⋯ ⋯ hc,eqj j hj,eij c hc,eij j hj,eqj c hc]
          · rcases eo7 i' a ⋯ with y | ⟨y0,y⟩
            · exact .inl λc hc=>by rw[Zde ⋯,if_neg e]; exact y c hc
            · exact .inr ⟨y0,λc hc=>by rw[Zde ⋯,if_neg e]; exact y c hc⟩
        · by_cases e:i'=i
          · rw[e,ZaU ⋯,if_pos ⋯,eR]
            exact zst
          · rw[Zbh (Ne.symm e)]
            have:=rz7 i' hi'
            by_cases q:ls.length<i'/\i'<ls.length+1+r
            · rw[if_pos q] at this
              rw[if_pos ⋯]; exact this
            · rw[if_neg q] at this
              rw[if_neg ⋯]; exact this
    · rintro σ H7 ⟨z7',z8',z9',z10',es,R',rfl,nv7,S7,q7,ni7,g7,rx7,l7,w7,k7,en7,eo7,rz7⟩
      refine ⟨_,rfl,_,_,rfl,rfl,?_⟩
      have stp:Wek R' n (j+1) (ls++[j]):=by
        refine Wek.stepS (m:=m) wk lR hj qt tn' pv0 (λi hi c hc=>?_) (λi hi hin=>?_)
        · rw[hM]; exact en7 i ⋯ ⋯ c hc
        · rw[hM]
          have:=eo7 i hi ⋯
          rw[tq] at this
          rcases this with y | y
          · exact .inl λc hc=>by rw[y c hc,tq]
          · exact .inr y
      refine ⟨some (.int (0+(j:Int))),some (.int (t:Int)),some (.ref b1),z7',z8',z9',z10',es,R',ls++[j],?_,nv7,S7,q7,ni7,rx7,l7,w7,stp,by rw[Qb]; exact Nat.succ_le_succ lj,k7,λi hi=>?_⟩
      · rw[show ((ls++[j]).length:Int)=(ls.length:Int)+1 by rw[Qb]; rfl]
        rfl
      · rw[show (ls++[j]).length=ls.length+1 by rw[Qb]; rfl]
        have:=rz7 i hi
        split at this
        · exact this
        · exact this.up
  · rintro σ H3 ⟨z4,z5,z6,z7,z8,z9,z10,ds,R,ls,rfl,nv3,S3,hR,nid,rx,lR,wR,wk,lj,kr,rz⟩
    obtain ⟨R',k',ech⟩:=Zma lR wR wk
    exact ⟨_,rfl,k H3 R' ls S3 (λu=>(k' u).trans (kr u)) ech⟩
end
end My
namespace My
open PySem L2 PyProof.Rows
def ZqC{κ:KX}(f:List κ.F):PyData:=.list (f.map κ.D)
theorem ColL.rp{κ:KX}{H:Hp}{a:Addr}{xs:List V}{f:List κ.F}(h:ColL κ H a xs f):Rp H 2 (.ref a) (ZqC f):=Zhe h.l (h.al.all2 λ_ _ n=>n.rp)
theorem ZnR{ys:List V}{m:Nat}{v:V}(hv:ys[m]?=some v)(l:ys.length=m+1):atI ys (-1)=some v:=by
  unfold atI
  rw[ZlP ⋯]
  show ys[ys.length-1]?=_
  rw[show ys.length-1=m by omega]; exact hv
inductive Zeq (vs:List V) (H:Hp) (Q:VK) (zE:XK):Prop
  | mk (κ:KX) (a:Addr) (rs:List Addr) (Rw:List (List κ.F)) (m:Nat) (ls:List Nat) (_:vs=[.int κ.P,.ref a]) (_:H a=some (.lst (rs.map V.ref))) (_:RowsX κ H rs Rw) (_:Wid m Rw) (_:m<=7) (_:Rw.length=ls.length) (_:Ech Rw ls.length m ls 1) (_:∀(H':Hp) (L:Addr),Same H H'->H L=none->H' L=some (.lst (ls.map λ(i:Nat)=>V.int (i:Int)))->Q (.ref L) H'):Zeq vs H Q zE
section
variable{κ:KX}
noncomputable def lfE(v:List κ.F)(ls:List Nat)(Rw:List (List κ.F))(k j:Nat):κ.F:=v.getD j 0-Rg.Sg (λk=>v.getD (ls.getD k 0) 0*ent Rw k j) k
noncomputable def lfL(v:List κ.F)(ls:List Nat)(Rw:List (List κ.F))(m k j:Nat):List κ.F:=(List.range m).map λc=>if c<j then lfE v ls Rw (k+1) c else lfE v ls Rw k c
theorem Zc2(v:List κ.F)(ls:List Nat)(Rw:List (List κ.F))(m k j:Nat):(lfL v ls Rw m k j).length=m:=ZgJ _ _
theorem ZpG{v:List κ.F}{ls:List Nat}{Rw:List (List κ.F)}{m:Nat}(h:v.length=m):lfL v ls Rw m 0 0=v:=Zb4 (by rw[Zc2,h]) λj hj=>by
  rw[Zc2] at hj
  refine (ZbL _ hj).trans ?_
  rw[if_neg ⋯]
  show v.getD j 0-0=_
  grind
theorem ZnS(v:List κ.F)(ls:List Nat)(Rw:List (List κ.F))(m k:Nat):lfL v ls Rw m k m=lfL v ls Rw m (k+1) 0:=Zb4 (by rw[Zc2,Zc2]) λj hj=>by
  rw[Zc2] at hj
  refine (ZbL _ hj).trans (Eq.trans ?_ (ZbL _ hj).symm)
  rw[if_pos hj,if_neg ⋯]
theorem Zmb{v:List κ.F}{ls:List Nat}{Rw:List (List κ.F)}{m k j:Nat}(hj:j<m):(lfL v ls Rw m k j).set j (lfE v ls Rw k j-v.getD (ls.getD k 0) 0*ent Rw k j)=lfL v ls Rw m k (j+1):=by
  refine List.ext_getElem? λi=>?_
  unfold lfL
  rw[U1,ZgJ]
  by_cases e:j=i
  · rw[if_pos e,if_pos hj,<-e,Qa,Wq hj]
    show some _=some (if j<j+1 then _ else _)
    rw[if_pos ⋯]
    congr 1
    unfold lfE
    show _=v.getD j 0-(Rg.Sg (λk=>v.getD (ls.getD k 0) 0*ent Rw k j) k+v.getD (ls.getD k 0) 0*ent Rw k j)
    grind
  · rw[if_neg e,Qa,Qa]
    by_cases hi:i<m
    · rw[Wq hi]
      show some (if i<j then _ else _)=some (if i<j+1 then _ else _)
      by_cases q:i<j
      · rw[if_pos q,if_pos ⋯]
      · rw[if_neg q,if_neg ⋯]
    · rw[U4 (by rw[Wd]; omega)]; rfl
theorem ZoX{v:List κ.F}{ls:List Nat}{Rw:List (List κ.F)}{m k j:Nat}(hj:j<m):(lfL v ls Rw m k j)[j]?=some (lfE v ls Rw k j):=by
  unfold lfL
  rw[Qa,Wq hj]
  show some (if j<j then _ else _)=_
  rw[if_neg (W0 j)]
structure LfS (κ:KX) (v:List κ.F) (Rw:List (List κ.F)):Prop where
  s:∃D M E N:Nat,0<D/\D<=10^40/\M<=10^40/\0<E/\E<=10^40/\N<=10^40/\AllR (QN κ (D:Int) M) Rw/\∀x∈v,QN κ (E:Int) N x
theorem LfS.b1{v:List κ.F}{Rw:List (List κ.F)}(h:LfS κ v Rw)(ls:List Nat):(∀i,B1 κ (v.getD i 0))/\(∀k j,B1 κ (ent Rw k j))/\(∀i k j,B1 κ (v.getD i 0*ent Rw k j))/\∀k j,k<=7->B1 κ (lfE v ls Rw k j):=by
  obtain ⟨D,M,E,N,d0,dl,ml,e0,el,nl,qR,qv⟩:=h.s
  have a1:=λi=>ZgK qv i
  have a2:=λk j=>Zez qR k j
  have de:0<E*D:=U7 e0 d0
  have l1:E*D<=10^200:=Q0 (Qm el dl) ∅
  have a3:=λi k j=>QN.mulN (a1 i) (a2 k j)
  refine ⟨λi=>ZbM e0 (Q0 el ∅) (Q0 nl ∅) (a1 i),λk j=>ZbM d0 (Q0 dl ∅) (Q0 ml ∅) (a2 k j),λi k j=>ZbM de l1 (Q0 (Qm nl ml) ∅) (a3 i k j),λk j hk=>?_⟩
  have s:=Zhs (κ:=κ) (D:=((E*D:Nat):Int)) ⋯ (M:=N*M) k (h:=λk=>v.getD (ls.getD k 0) 0*ent Rw k j) λi _=>a3 _ i j
  have t:=QN.sub ⋯ ((a1 j).upN e0 d0) s
  refine ZbM de l1 (Q0 (Nat.add_le_add (Qm nl dl) (Qm hk (Qm nl ml))) ∅) t
end
inductive ZdC (vs:List V) (H:Hp) (Q:VK) (zE:XK):Prop
  | mk (κ:KX) (ra la ca:Addr) (rs:List Addr) (Rw:List (List κ.F)) (ls:List Nat) (xs:List V) (v:List κ.F) (m:Nat) (_:vs=[.int κ.P,.ref ra,.ref la,.ref ca]) (_:H ra=some (.lst (rs.map V.ref))) (_:RowsX κ H rs Rw) (_:Rw.length=ls.length) (_:ls.length<=7) (_:Wid m Rw) (_:m<=7) (_:H la=some (.lst (ls.map λ(i:Nat)=>V.int (i:Int)))) (_:(∀k<ls.length,ls.getD k 0<m)) (_:ColL κ H ca xs v) (_:v.length=m) (_:LfS κ v Rw) (_:(∀j,j<m->v.getD j 0=Rg.Sg (λk=>v.getD (ls.getD k 0) 0*ent Rw k j) ls.length)) (_:∀H',Same H H'->Q (.bl true) H'):ZdC vs H Q zE
end My
namespace My
open PySem L2 PyProof.Rows
section
variable{P:Program}{w:World}{K:PySem.W.Frag}{mg:Str->Option Value}{base:Heap}
theorem sc_l_leads:FnScope ["_law_prime_here", "_law_rows", "_law_nought", "_law_leads_here", "_law_row", "_law_j", "_law_k", "_law_i"] ["_law_prime_here", "_law_rows"] (Zah Ze9):=‹2›
theorem ZjC(h:Here K mg "_law_leads" Ze9) (T:Nm mg) (h_l_make:Has P w K mg base "_law_make" 4 ["_law_prime_here", "_law_number"] Zbj):Has P w K mg base "_law_leads" 5 ["_law_prime_here", "_law_rows"] Zeq:=by
  refine h.has (λf fd F=>F.binds λ_ _ _ _ _ _ us hl=>by obtain ⟨_,_,rfl⟩:=ZdJ hl; exact rfl) λf fd F=>F.ok sc_l_leads (λvs H Q E h=>?_) (λcdv A outer s H vs Q E hr h=>?_)
  · obtain ⟨_,_,_,_,_,_,rfl,_⟩:=h
    rfl
  obtain ⟨κ,a,rs,Rw,m,ls,rfl,hT,rx,wd,m7,lR,ech,k⟩:=h
  have nd:=sc_l_leads.nd
  refine ⟨_,(Zab (Zaj (i:=2) nd rfl (Or.inl rfl) (Zan h_l_make hr (by rfl) (Zaa (pv 0) (Zaa Zad Zac))))
    (Zab (Zaj (i:=3) nd rfl (Or.inl rfl) (ZaQ Zac))
    (Zab (ZaI PassesOwn.never rfl (ZaC (pv 1)) (Zar (i:=4) nd rfl (Or.inl rfl)) (Zab (Zaj (i:=5) nd rfl (Or.inl rfl) Zad)
      (Zab (ZbN PassesOwn.never (ZfM (Zap ZdW (pv 5) (Zak Zai (by rfl) T.len boot_len (Zaa (pv 4) Zac)) (Zas _)) (ZdV (Zap (Zkg hr) (Zam Zau (pv 4) (pv 5) (λ_ _=>rfl)) (pv 2) (Zas _)))).pt (Zae (Zaj (i:=5) nd rfl (Or.inl rfl) (Zao Za0 (pv 5) Zad))))
      (Zab (ZaB (Zdj (Zap Za9 (pv 5) (Zak Zai (by rfl) T.len boot_len (Zaa (pv 4) Zac)) (Zas _)) (Zdj (Zap (Zkh hr) (Zam Zau (pv 4) (pv 5) (λ_ _=>rfl)) (Zan h_l_make hr (by rfl) (Zaa (pv 0) (Zaa Zad Zac))) (Zas _)) (ZdE (ZfM (Zap ZiY (Zak Zai (by rfl) T.len boot_len (Zaa (pv 3) Zac)) Zad (Zas _)) (ZdV (Zap Zlk (pv 5) (Zam Zau (pv 3) (ZgQ Zet Zad) (λ_ _=>rfl)) (Zas _)))).pt))).pt (Zae (Zal ZfL)) Zat)
      (Zae (ZaE (ZeC PySem.F.plainAttrs_list PySem.F.slot_list_append PySem.F.type_list_append Za3 (pv 3) (Zaa (pv 5) Zac))))))))
    (Zab (ZaI PassesOwn.never rfl (Zay (by rfl) T.range (Zaa (Zak Zai (by rfl) T.len boot_len (Zaa (pv 1) Zac)) Zac)) (Zar (i:=6) nd rfl (Or.inl rfl)) (Zae (ZaI PassesOwn.never rfl (Zay (by rfl) T.range (Zaa (Zak Zai (by rfl) T.len boot_len (Zaa (pv 1) Zac)) Zac)) (Zar (i:=7) nd rfl (Or.inl rfl)) (Zae (ZaB (ZfM (Zap ZeB (pv 7) (pv 6) (Zas _)) (ZdV (Zap (Zkh hr) (Zam Zau (Zam Zau (pv 1) (pv 7) (λ_ _=>rfl)) (Zam Zau (pv 3) (pv 6) (λ_ _=>rfl)) (λ_ _=>rfl)) (pv 2) (Zas _)))).pt (Zae (Zal ZfL)) Zat)))))
    (Zae (Zal (pv 3))))))),?_⟩
  have lr:=rx.1
  have lc:=ech.lc
  refine ⟨_,rfl,κ,0,0,rfl,ZfA,λH1 v0 S1 n0=>?_⟩
  refine ⟨(by show 0<=sizeLine; decide),λL nL=>?_⟩
  have SL:=Zag nL (.lst [])
  have qL:=Zaf (H:=H1) (a:=L) (o:=.lst [])
  generalize upd H1 L (.lst [])=H2 at *
  have S02:=S1.trans SL
  have nL0:H L=none:=S1.free nL
  refine ⟨_,rfl,a,rfl,⟨_,SqL.of (S02 _ _ hT)⟩,?_⟩
  refine Za8 (K:=K) (a:=a) (xs:=rs.map V.ref) (λi σ H3=>∃(z4 z5:Option V),σ=[some (.int κ.P),some (.ref a),some v0,some (.ref L),z4,z5,none,none]/\NR κ H3 v0 0/\Same H H3/\H3 L=some (.lst ((ls.take i).map λ(i:Nat)=>V.int (i:Int)))) ⟨_,_,rfl,n0.same SL,S02,by rw[W9]; exact qL⟩ ?_ ?_ ?_
  · rintro i σ H3-⟨z4,z5,rfl,n3,S3,q3⟩
    exact SqL.of (S3 _ _ hT)
  · rintro i x σ H3 hx ⟨z4,z5,rfl,n3,S3,q3⟩
    obtain ⟨b,hb,rfl⟩:=Zaw hx
    obtain ⟨f,hf⟩:=Zax hb lr
    obtain ⟨ws,hw,aw⟩:=rx.2 i b f hb hf
    have hi:i<ls.length:=by have:=(Qk.mp hf).1; omega
    have lw:ws.length=m:=by rw[aw.1]; exact wd f (Q8 hf)
    have li:=ech.lt i hi
    have hw3:=S3 _ _ hw
    have en:∀j,j<m->∃v,ws[j]?=some v/\NR κ H3 v (ent Rw i j):=λj hj=>by
      obtain ⟨v,hv,nv⟩:=aw.get' (i:=j) (by rw[<-aw.1]; omega)
      refine ⟨v,hv,?_⟩
      have e:ent Rw i j=f[j]'(by rw[<-aw.1]; omega):=by
        have e1:=(Qk.mp hf).2
        rw[ZcH ⋯,e1,Q3,Q2 (by rw[<-aw.1]; omega)]; rfl
      rw[e]; exact nv.same S3
    refine ⟨λmm σ H4=>∃t:Nat,mm=m-t/\σ=[some (.int κ.P),some (.ref a),some v0,some (.ref L),some (.ref b),some (.int (t:Int)),none,none]/\H3=H4/\t<=ls.getD i 0,⟨_,0,rfl,rfl,rfl,Qh _⟩,?_⟩
    rintro mm σ H4 ⟨t,rfl,rfl,rfl,tl⟩
    obtain ⟨v,hv,nv⟩:=en t ⋯
    obtain ⟨bb,eb,be⟩:=Zjj nv n3
    refine ⟨_,rfl,_,rfl,b,_,rfl,.inl (SqL.of hw3),_,_,rfl,rfl,_,rfl,?_⟩
    rw[lw]
    refine Zbq (λz=>?_) (λz=>absurd (show (t:Int)<(m:Int) by omega) z)
    refine ⟨_,rfl,_,rfl,b,_,_,_,rfl,rfl,SqL.of hw3,ZaF hv,_,rfl,bb,eb,_,rfl,?_⟩
    refine Zle (λzz=>?_) (λzz=>?_)
    · have z0:=be.mp zz
      have tne:t≠ls.getD i 0:=λe=>by
        have c:=ech.col i hi i ⋯
        rw[if_pos rfl,<-e,z0] at c
        exact Fd.zne c
      refine ⟨_,λ_ _ h=>h,?_⟩
      refine ⟨_,rfl,_,_,rfl,rfl,?_⟩
      exact ⟨_,(by show m-(t+1)<m-t; omega),t+1,rfl,rfl,rfl,⋯⟩
    have te:t=ls.getD i 0:=Classical.byContradiction λne=>by
      have:=be.mpr (ech.pre i hi t ⋯)
      rw[this] at zz; cases zz
    have v1:ent Rw i t=1:=by have c:=ech.col i hi i ⋯; rw[if_pos rfl,<-te] at c; exact c
    rw[v1] at nv
    refine ⟨_,rfl,_,rfl,b,_,rfl,.inl (SqL.of hw3),rfl,_,rfl,?_⟩
    rw[lw]
    refine Zbr (λz=>absurd z ⋯) (λ_=>?_)
    refine ⟨_,rfl,_,rfl,b,_,_,_,rfl,rfl,SqL.of hw3,ZaF hv,_,rfl,κ,1,1,rfl,ZeD,λH5 u1 S5 n5=>?_⟩
    obtain ⟨b2,e2,be2⟩:=Zjj (nv.same S5) n5
    have b2t:b2=true:=be2.mpr rfl
    subst b2t
    refine ⟨true,e2,_,rfl,Zc7 ?_⟩
    have q5:=S5 _ _ q3
    have ltk:(ls.take i).length=i:=by rw[Qi]; omega
    refine ⟨_,rfl,L,_,rfl,.inl (SqL.of q5),_,_,rfl,rfl,_,rfl,?_⟩
    rw[Q1,ltk]
    have O:Off [L] H5 (upd H5 L (.lst (((ls.take i).map λ(i:Nat)=>V.int (i:Int))++[V.int (t:Int)]))):=ZaH (Same.refl H5)
    have e9:((ls.take i).map λ(i:Nat)=>V.int (i:Int))++[V.int (t:Int)]=(ls.take (i+1)).map λ(i:Nat)=>V.int (i:Int):=by
      rw[Qq,Q2 hi,Qn,te,ZcZ hi]; rfl
    have fin:=And.intro ((n3.same S5).off q5 O) (And.intro (Off.same O (S3.trans S5) (λz hz=>by rw[Q5.mp hz]; exact nL0)) (show upd H5 L (.lst (((ls.take i).map λ(i:Nat)=>V.int (i:Int))++[V.int (t:Int)])) L=some (.lst ((ls.take (i+1)).map λ(i:Nat)=>V.int (i:Int))) by rw[Zaf,e9]))
    have sz:((ls.take i).map λ(i:Nat)=>V.int (i:Int)).length<sizeLine:=Q7 (show _<1000 by rw[Q1]; omega) ∅
    refine Zbq (λz=>?_) (λz=>?_)
    · have z:(0:Int)<(i:Int):=z
      have gl:((ls.take i).map λ(i:Nat)=>V.int (i:Int))[i-1]?=some (V.int ((ls.getD (i-1) 0:Nat):Int)):=by
        rw[Qa,Wp,if_pos ⋯,Q2 ⋯,ZcZ ⋯]; rfl
      have lti:=ech.inc (i-1) i ⋯ hi
      refine ⟨_,rfl,_,rfl,_,rfl,L,_,_,_,rfl,rfl,SqL.of q5,ZnR gl (by rw[Q1]; omega),_,_,rfl,rfl,_,rfl,ZcW ⋯ ?_⟩
      exact ⟨_,rfl,.inl ⟨rfl,_,SqL.of q5⟩,_,rfl,L,_,_,rfl,rfl,q5,sz,_,_,rfl,fin⟩
    · refine Zc7 ?_
      exact ⟨_,rfl,.inl ⟨rfl,_,SqL.of q5⟩,_,rfl,L,_,_,rfl,rfl,q5,sz,_,_,rfl,fin⟩
  rintro σ H3 ⟨z4,z5,rfl,n3,S3,q3⟩
  rw[Q1,lr,lR,Qz] at q3
  refine ⟨_,rfl,a,_,rfl,.inl (SqL.of (S3 _ _ hT)),_,rfl,⋯,by rw[Q1]; omega,?_⟩
  rw[Q1,lr,lR,Q6]
  refine ZaG (lo:=0) (n:=ls.length) (λq σ H4=>∃(z6 z7:Option V),σ=[some (.int κ.P),some (.ref a),some v0,some (.ref L),z4,z5,z6,z7]/\H3=H4) ⟨_,_,rfl,rfl⟩ ?_ ?_
  · rintro q σ H4 hq ⟨z6,z7,rfl,rfl⟩
    refine ⟨_,rfl,a,_,rfl,.inl (SqL.of (S3 _ _ hT)),_,rfl,⋯,by rw[Q1]; omega,?_⟩
    rw[Q1,lr,lR,Q6]
    refine ZaG (lo:=0) (n:=ls.length) (λi σ H5=>∃(z7:Option V),σ=[some (.int κ.P),some (.ref a),some v0,some (.ref L),z4,z5,some (.int (0+(q:Int))),z7]/\H3=H5) ⟨_,rfl,rfl⟩ ?_ ?_
    · rintro i σ H5 hi ⟨z7,rfl,rfl⟩
      refine ⟨_,rfl,_,rfl,rfl,_,rfl,?_⟩
      refine ZcL (λne=>?_) (λ_=>?_)
      · obtain ⟨b,ws,v,g1,g2,g3,g4⟩:=(rx.same S3).ent wd (i:=i) (j:=ls.getD q 0) ⋯ (ech.lt q hq)
        have gl:(ls.map λ(i:Nat)=>V.int (i:Int))[q]?=some (V.int ((ls.getD q 0:Nat):Int)):=by
          rw[Qa,Q2 hq,ZcZ hq]; rfl
        have c:=ech.col q hq i hi
        rw[if_neg ⋯] at c
        rw[c] at g4
        obtain ⟨bb,eb,be⟩:=Zjj g4 n3
        have bt:=be.mpr rfl
        subst bt
        exact ⟨_,rfl,_,rfl,a,_,_,_,rfl,rfl,SqL.of (S3 _ _ hT),(by rw[Qc]; exact Zbi g1),_,rfl,_,rfl,L,_,_,_,rfl,rfl,SqL.of q3,(by rw[Qc]; exact ZaF gl),b,_,_,_,rfl,rfl,SqL.of g2,ZaF g3,_,rfl,true,eb,_,rfl,Zc7 ⟨_,rfl,rfl⟩⟩
      · exact Zc7 ⟨_,rfl,rfl⟩
    · rintro σ H5 ⟨z7,rfl,rfl⟩
      exact ⟨_,_,rfl,rfl⟩
  · rintro σ H4 ⟨z6,z7,rfl,rfl⟩
    exact ⟨_,rfl,k H3 L S3 nL0 q3⟩
theorem sc_l_within:FnScope ["_law_prime_here", "_law_rows", "_law_leads_here", "_law_column", "_law_left", "_law_k", "_law_j"] ["_law_prime_here", "_law_rows", "_law_leads_here", "_law_column"] (Zah Zd2):=‹2›
theorem Zik(h:Here K mg "_law_within" Zd2) (T:Nm mg) (h_l_make:Has P w K mg base "_law_make" 4 ["_law_prime_here", "_law_number"] Zbj) (h_l_times:Has P w K mg base "_law_times" 4 ["_law_prime_here", "_law_one", "_law_other"] (Zbf λ_ x y=>x*y)) (h_l_minus:Has P w K mg base "_law_minus" 4 ["_law_prime_here", "_law_one", "_law_other"] (Zbf λ_ x y=>x-y)):Has P w K mg base "_law_within" 5 ["_law_prime_here", "_law_rows", "_law_leads_here", "_law_column"] ZdC:=by
  refine h.has (λf fd F=>F.binds λ_ _ _ _ _ _ us hl=>by obtain ⟨_,_,_,_,rfl⟩:=ZnV hl; exact rfl) λf fd F=>F.ok sc_l_within (λvs H Q E h=>?_) (λcdv A outer s H vs Q E hr h=>?_)
  · obtain ⟨_,_,_,_,_,_,_,_,_,_,rfl,_⟩:=h
    rfl
  obtain ⟨κ,ra,la,ca,rs,Rw,ls,xs,v,m,rfl,hT,rx,lR,l7,wd,m7,hL,lm,cl,lv,sz,win,k⟩:=h
  have nd:=sc_l_within.nd
  refine ⟨_,(Zab (Zaj (i:=4) nd rfl (Or.inl rfl) (Zbc ZbZ (by rfl) T.list boot_list (Zaa (pv 3) Zac)))
    (Zab (ZaI PassesOwn.never rfl (Zay (by rfl) T.range (Zaa (Zak Zai (by rfl) T.len boot_len (Zaa (pv 1) Zac)) Zac)) (Zar (i:=5) nd rfl (Or.inl rfl)) (Zae (ZaI PassesOwn.never rfl (Zay (by rfl) T.range (Zaa (Zak Zai (by rfl) T.len boot_len (Zaa (pv 3) Zac)) Zac)) (Zar (i:=6) nd rfl (Or.inl rfl)) (Zae (Zes (Zan h_l_minus hr (by rfl) (Zaa (pv 0) (Zaa (Zam Zau (pv 4) (pv 6) (λ_ _=>rfl)) (Zaa (Zan h_l_times hr (by rfl) (Zaa (pv 0) (Zaa (Zam Zau (pv 3) (Zam Zau (pv 2) (pv 5) (λ_ _=>rfl)) (λ_ _=>rfl)) (Zaa (Zam Zau (Zam Zau (pv 1) (pv 5) (λ_ _=>rfl)) (pv 6) (λ_ _=>rfl)) Zac)))) Zac)))) (Zer (pv 4) (pv 6) ZbY))))))
    (Zae (Zal (Zbk (Zom hr) (pv 4) (ZaX ["_law_one"] [(0, "_law_prime_here")] rfl (ZaC (pv 3)) (by exact λ_ _ _ _=>(Zar (i:=0) (show (["_law_one", "_law_prime_here"]:List Str).Nodup by decide +kernel) rfl (Or.inl rfl))) (by exact λ_ _ _ _=>(Zan h_l_make hr (by rfl) (Zaa (pv 1) (Zaa Zad Zac)))) ⟨⟨rfl,rfl,Or.inl rfl⟩,trivial⟩) (Zas _)))))),?_⟩
  have lr:=rx.1
  have lx:=cl.al.1
  obtain ⟨bv,be,bp,bl⟩:=sz.b1 ls
  refine ⟨_,rfl,ca,xs,rfl,.inl (SqL.of cl.l),λF0 nF=>?_⟩
  have SF:=Zag nF (.lst xs)
  have qF:=Zaf (H:=H) (a:=F0) (o:=.lst xs)
  generalize upd H F0 (.lst xs)=H1 at *
  refine ⟨_,rfl,ra,_,rfl,.inl (SqL.of (SF _ _ hT)),_,rfl,⋯,by rw[Q1]; omega,?_⟩
  rw[Q1,lr,lR,Q6]
  refine ZaG (lo:=0) (n:=ls.length) (λq σ H2=>∃(z5 z6:Option V) (ys:List V),σ=[some (.int κ.P),some (.ref ra),some (.ref la),some (.ref ca),some (.ref F0),z5,z6]/\Same H H2/\H2 F0=some (.lst ys)/\AllG (NR κ H2) ys (lfL v ls Rw m q 0)) ⟨_,_,xs,rfl,SF,qF,by rw[ZpG lv]; exact cl.al.mono λ_ _ n=>n.same SF⟩ ?_ ?_
  · rintro q σ H2 hq ⟨z5,z6,ys,rfl,S2,q2,a2⟩
    refine ⟨_,rfl,ca,_,rfl,.inl (SqL.of (S2 _ _ cl.l)),_,rfl,⋯,⋯,?_⟩
    rw[lx,lv,Q6]
    refine ZaG (lo:=0) (n:=m) (λj σ H3=>∃(z6:Option V) (ys:List V),σ=[some (.int κ.P),some (.ref ra),some (.ref la),some (.ref ca),some (.ref F0),some (.int (0+(q:Int))),z6]/\Same H H3/\H3 F0=some (.lst ys)/\AllG (NR κ H3) ys (lfL v ls Rw m q j)) ⟨_,ys,rfl,S2,q2,a2⟩ ?_ ?_
    · rintro j σ H3 hj ⟨z6,ys,rfl,S3,q3,a3⟩
      obtain ⟨y,hy,ny⟩:=a3.at (ZoX hj)
      have gl:(ls.map λ(i:Nat)=>V.int (i:Int))[q]?=some (V.int ((ls.getD q 0:Nat):Int)):=by
        rw[Qa,Q2 hq,ZcZ hq]; rfl
      have lmq:=lm q hq
      obtain ⟨c,hc,nc⟩:=Zdw cl.al (i:=ls.getD q 0) ⋯
      obtain ⟨b,ws,u,g1,g2,g3,g4⟩:=(rx.same S3).ent wd (i:=q) (j:=j) ⋯ hj
      refine ⟨_,rfl,_,rfl,_,rfl,F0,_,_,_,rfl,rfl,SqL.of q3,(by rw[Qc]; exact ZaF hy),_,rfl,_,rfl,_,rfl,_,rfl,la,_,_,_,rfl,rfl,SqL.of (S3 _ _ hL),(by rw[Qc]; exact ZaF gl),ca,_,_,_,rfl,rfl,SqL.of (S3 _ _ cl.l),ZaF hc,_,rfl,_,rfl,ra,_,_,_,rfl,rfl,SqL.of (S3 _ _ hT),(by rw[Qc]; exact Zbi g1),_,rfl,b,_,_,_,rfl,rfl,SqL.of g2,(by rw[Qc]; exact ZaF g3),κ,c,u,_,_,rfl,nc.same S3,g4,bv _,be _ _,λH4 p4 S4 n4=>?_⟩
      refine ⟨κ,y,p4,_,_,rfl,ny.same S4,n4,bl q j ⋯,bp _ _ _,λH5 p5 S5 n5=>?_⟩
      have S45:=S4.trans S5
      have q5:=S45 _ _ q3
      have ly:ys.length=m:=by rw[a3.1,Zc2]
      refine ⟨_,rfl,_,rfl,F0,ys,_,j,rfl,rfl,q5,(by rw[Qc]; exact Zfc ⋯),?_⟩
      have O:Off [F0] H5 (upd H5 F0 (.lst (ys.set j p5))):=ZaH (Same.refl H5)
      refine ⟨_,ys.set j p5,rfl,Off.same O (S3.trans S45) (λz hz=>by rw[Q5.mp hz]; exact nF),Zaf,?_⟩
      rw[<-Zmb hj]
      exact (a3.mono λ_ _ n=>(n.same S45).off q5 O).set j (n5.off q5 O)
    · rintro σ H3 ⟨z6,ys,rfl,S3,q3,a3⟩
      rw[ZnS] at a3
      exact ⟨_,_,ys,rfl,S3,q3,a3⟩
  · rintro σ H2 ⟨z5,z6,ys,rfl,S2,q2,a2⟩
    have e0:lfL v ls Rw m ls.length 0=List.replicate m 0:=Zb4 (by rw[Zc2,Wt]) λj hj=>by
      rw[Zc2] at hj
      refine (ZbL _ hj).trans ?_
      rw[if_neg ⋯,Q3,List.getElem?_replicate,if_pos hj]
      show v.getD j 0-_=(0:κ.F)
      rw[<-win j hj]; grind
    rw[e0] at a2
    refine ⟨_,rfl,_,rfl,ca,rfl,⟨_,SqL.of (S2 _ _ cl.l)⟩,?_⟩
    refine ZaL (K:=K) (a:=ca) (xs:=xs) (λi zs H3=>Same H2 H3/\AllG (NR κ H3) zs (List.replicate i 0)) ⋯ ⟨Same.refl _,.nil⟩ (λi zs H3 _ q=>SqL.of ((S2.trans q.1) _ _ cl.l)) ?_ ?_
    · rintro i x zs H3 hx hl ⟨S3,e3⟩
      refine ⟨_,rfl,κ,0,0,rfl,ZfA,λH4 u S4 nu=>⟨S3.trans S4,?_⟩⟩
      rw[List.replicate_succ']
      exact (e3.mono λ_ _ n=>n.same S4).append (.one nu)
    rintro zs H3 hl ⟨S3,e3⟩ p np
    rw[lx,lv] at e3
    have Sp:=Zag np (.lst zs)
    have qp:=Zaf (H:=H3) (a:=p) (o:=.lst zs)
    generalize upd H3 p (.lst zs)=H4 at *
    have S24:=S3.trans Sp
    exact ⟨_,((ColL.mk (S24 _ _ q2) (a2.mono λ_ _ n=>n.same S24)).rp).mono ∅,((ColL.mk qp (e3.mono λ_ _ n=>n.same Sp)).rp).mono ∅,k H4 (S2.trans S24)⟩
end
end My
namespace My
open PySem L2 PyProof.Rows
section
variable{κ:KX}
noncomputable def ZjD(A:List (List κ.F))(m:Nat)(cs:List (List κ.F)):List (List κ.F):=(cs.map λc=>(List.range m).map (imL A m c)).flatten
theorem Zmc(A:List (List κ.F))(m:Nat)(cs:List (List κ.F))(c:List κ.F):ZjD A m (cs++[c])=ZjD A m cs++(List.range m).map (imL A m c):=by
  unfold ZjD
  rw[Qn,List.flatten_append]
  show _++[_].flatten=_
  rw[List.flatten_cons,List.flatten_nil,Us]
theorem kry_mem{A:List (List κ.F)}{m:Nat}{cs:List (List κ.F)}{f:List κ.F}:f∈ZjD A m cs↔∃c∈cs,∃k,k<m/\f=imL A m c k:=by
  unfold ZjD
  rw[List.mem_flatten]
  constructor
  · rintro ⟨l,hl,hf⟩
    obtain ⟨c,hc,rfl⟩:=Ql.mp hl
    obtain ⟨k,hk,rfl⟩:=Ql.mp hf
    exact ⟨c,hc,k,Wr.mp hk,rfl⟩
  · rintro ⟨c,hc,k,hk,rfl⟩
    exact ⟨_,Ql.mpr ⟨c,hc,rfl⟩,Ql.mpr ⟨k,Wr.mpr hk,rfl⟩⟩
theorem Zil(A:List (List κ.F))(m:Nat):∀cs:List (List κ.F),(ZjD A m cs).length=cs.length*m
  | []=>by show 0=0*m; omega
  | c::cs=>by
    show ((List.range m).map (imL A m c)++ZjD A m cs).length=(cs.length+1)*m
    rw[Qb,Q1,Wd,Zil A m cs,Nat.succ_mul]; omega
theorem ZoY{A:List (List κ.F)}{m:Nat}{cs:List (List κ.F)}(hm:m<=7)(m3:κ = .q->m<=3)(ha:AllR (Q12 κ) A)(hc:AllR (Q12 κ) cs):AllR (QN κ ((1728:Nat):Int) (10^8)) (ZjD A m cs):=λf hf x hx=>by
  obtain ⟨c,hc',k,hk,rfl⟩:=kry_mem.mp hf
  cases κ with
  | r p hp=>exact trivial
  | q =>
    obtain ⟨i,_,rfl⟩:=Ql.mp hx
    exact ZoR hm ha (hc c hc') (by have:=m3 rfl; omega) i
theorem Rom.none{A:List (List κ.F)}{m:Nat}{Rw:List (List κ.F)}{ls:List Nat}(h:Rom A m [] Rw ls):ls=[] :=
  ZiE h.e (Rom.nil (A:=A) (m:=m)).e λu=>by rw[h.k u,Rom.nil.k u]
theorem ZoZ{A:List (List κ.F)}{f:List κ.F}{D M:Nat}(hD:0<D)(w:Wid f.length A)(l7:f.length<=7)(qA:AllR (Q12 κ) A)(qf:∀x∈f,QN κ (D:Int) M x):∀x∈Zib A f,QN κ ((12*D:Nat):Int) (7*(108*M)) x:=λx hx=>by
  obtain ⟨r,hr,rfl⟩:=Ql.mp hx
  have:=Zgz (D:=((12:Nat):Int)) (E:=(D:Int)) (Qp ∅ ⋯) (qA r hr) qf f.length (by rw[w r hr]; omega) (Q4 _)
  rw[<-We] at this
  exact this.mono (W3 _ l7)
theorem Rom.lfC{A:List (List κ.F)}{m:Nat}{cs Rw:List (List κ.F)}{ls:List Nat}(h:Rom A m cs Rw ls)(m3:κ = .q->m<=3)(ha:AllR (Q12 κ) A)(hc:AllR (Q12 κ) cs){c:List κ.F}(qc:∀x∈c,Q12 κ x):LfS κ c Rw:=by
  obtain ⟨D,M,d0,dl,ml,q⟩:=h.sz m3 ha hc
  exact ⟨D,M,12,108,d0,Q0 dl ∅,Q0 ml ∅,∅,∅,∅,q,qc⟩
theorem Rom.lfI{A:List (List κ.F)}{m:Nat}{cs Rw:List (List κ.F)}{ls:List Nat}(h:Rom A m cs Rw ls)(m7:m<=7)(m3:κ = .q->m<=3)(wA:Wid m A)(ha:AllR (Q12 κ) A)(hc:AllR (Q12 κ) cs){f:List κ.F}(hf:f∈Rw):LfS κ (Zib A f) Rw:=by
  obtain ⟨D,M,d0,dl,ml,q⟩:=h.sz m3 ha hc
  have lf:=h.w f hf
  exact ⟨D,M,12*D,7*(108*M),d0,Q0 dl ∅,Q0 ml ∅,⋯,Q0 (W6 12 dl) ∅,Q0 (W6 7 (W6 108 ml)) ∅,q,ZoZ d0 (by rw[lf]; exact wA) ⋯ ha (q f hf)⟩
end
inductive Zce (CF CR:Addr) (vs:List V) (H:Hp) (Q:VK) (zE:XK):Prop
  | mk (κ:KX) (s ta ca:Addr) (rs cas:List Addr) (A cs:List (List κ.F)) (m:Nat) (_:vs=[.ref s,.ref ta,.ref ca]) (_:KdX CF CR κ H s) (_:TabL κ H ta rs A m) (_:Zic κ H ca cas cs) (_:cs.length<=100) (_:(A.length≠m\/∃c∈cs,c.length≠A.length)) (_:∀H',Same H H'->Q (.bl true) H'):Zce CF CR vs H Q zE
inductive Zc3 (CF CR:Addr) (vs:List V) (H:Hp) (Q:VK) (zE:XK):Prop
  | mk (κ:KX) (s ta ca:Addr) (rs cas:List Addr) (A cs:List (List κ.F)) (m:Nat) (_:vs=[.ref s,.int κ.P,.ref ta,.ref ca]) (_:KdX CF CR κ H s) (_:TabL κ H ta rs A m) (_:A.length=m) (_:m<=7) (_:(κ = .q->m<=3)) (_:AllR (Q12 κ) A) (_:Zic κ H ca cas cs) (_:cs.length<=7) (_:Wid m cs) (_:AllR (Q12 κ) cs) (_:∀H',Same H H'->Q (.bl true) H'):Zc3 CF CR vs H Q zE
end My
namespace My
open PySem L2 PyProof.Rows
section
variable{P:Program}{w:World}{K:PySem.W.Frag}{mg:Str->Option Value}{base:Heap}{CF CR CE cK cN cF cT cI cX cM cR:Addr}
theorem sc_l_refused:FnScope ["_law_kind_here", "_law_table", "_law_columns", "_law_got", "e"] ["_law_kind_here", "_law_table", "_law_columns"] (Zah Zdt):=‹2›
theorem ZfK(h:Here K mg "_law_refused" Zdt) (T:Nm mg) (R:Rf K mg CE cK cN cF cT cI cX cM cR) (Z:Rz K mg "NoFit" CE cF [cK,cN,cT,cI,cX,cM,cR]) (h_room:HasX P w K mg base "room" 10 ["kind", "A", "columns"] (ZgL CF CR cF)):Has P w K mg base "_law_refused" 11 ["_law_kind_here", "_law_table", "_law_columns"] (Zce CF CR):=by
  refine h.has (λf fd F=>F.binds λ_ _ _ _ _ _ us hl=>by obtain ⟨_,_,_,rfl⟩:=Zew hl; exact rfl) λf fd F=>F.ok sc_l_refused (λvs H Q E h=>?_) (λcdv A outer s H vs Q E hr h=>?_)
  · obtain ⟨_,_,_,_,_,_,_,_,_,rfl,_⟩:=h
    rfl
  obtain ⟨κ,sk,ta,ca,rs,cas,A,cs,m,rfl,hk,tb,hC,n100,bad,k⟩:=h
  have nd:=sc_l_refused.nd
  refine ⟨_,(Zab (Zaj (i:=3) nd rfl (Or.inl rfl) ZfL)
    (Zab (Zok R.cat nd (i:=4) rfl rfl (by rfl) (by exact λE pn xe hp=>(Zae (ZaE (ZcN h_room hp hr (by rfl) (Zaa (pv 0) (Zaa (pv 1) (Zaa (pv 2) Zac))))))) (by exact λe=>(Zae (Zaj (i:=3) nd rfl (Or.inl rfl) (pv 4)))))
    (Zab (ZaB (Zdj (ZaY (Zak Zaz (by rfl) T.isinstance boot_isinstance (Zaa (pv 3) (Zaa (Zck (v:=.ref cK) (by rfl) R.k.m rfl) Zac)))) (Zdj (ZaY (Zak Zaz (by rfl) T.isinstance boot_isinstance (Zaa (pv 3) (Zaa (Zck (v:=.ref cN) (by rfl) R.n.m rfl) Zac)))) (Zdj (ZaY (Zak Zaz (by rfl) T.isinstance boot_isinstance (Zaa (pv 3) (Zaa (Zck (v:=.ref cT) (by rfl) R.t.m rfl) Zac)))) (ZdE (ZaY (Zak Zaz (by rfl) T.isinstance boot_isinstance (Zaa (pv 3) (Zaa (Zck (v:=.ref cI) (by rfl) R.i.m rfl) Zac)))))))).pt (Zae (Zal Zcj)) Zat)
    (Zab (ZaB (Zdj (ZaY (Zak Zaz (by rfl) T.isinstance boot_isinstance (Zaa (pv 3) (Zaa (Zck (v:=.ref cX) (by rfl) R.x.m rfl) Zac)))) (Zdj (ZaY (Zak Zaz (by rfl) T.isinstance boot_isinstance (Zaa (pv 3) (Zaa (Zck (v:=.ref cM) (by rfl) R.m.m rfl) Zac)))) (ZdE (ZaY (Zak Zaz (by rfl) T.isinstance boot_isinstance (Zaa (pv 3) (Zaa (Zck (v:=.ref cR) (by rfl) R.r.m rfl) Zac))))))).pt (Zae (Zal Zcj)) Zat)
    (Zae (Zal (ZfO (Zak Zaz (by rfl) T.isinstance boot_isinstance (Zaa (pv 3) (Zaa (Zck (v:=.ref cF) (by rfl) R.f.m rfl) Zac))) (ZfN (Zak Zaz (by rfl) T.isinstance boot_isinstance (Zaa (pv 3) (Zaa (Zg2 (by rfl) R.ve PyProof.Rows.Boot.«ValueError») Zac))))))))))),?_⟩
  obtain ⟨oK,oN,oT,oI,oX,oM,oR,_⟩:=Z.o
  intro pn xe
  refine ⟨_,rfl,_,rfl,_,rfl,κ,sk,ta,ca,rs,cas,A,cs,m,rfl,hk,tb,hC,n100,(λ_=>?_),λe1 e2=>?_⟩
  rotate_left
  · exact absurd bad (by
      rintro (z | ⟨c,hc,z⟩)
      · exact z e1
      · exact z (by rw[e1]; exact e2 c hc))
  refine ⟨cF,rfl,Z.e,λe he=>?_⟩
  refine ⟨_,rfl,?_⟩
  have he':=Zaf (H:=H) (a:=e) (o:=Zm8 e cF none)
  have S1:=Zag he (Zm8 e cF none)
  generalize upd H e (Zm8 e cF none)=H1 at *
  have hx:TyX K H1 (.ref e) (.ref cF):=.exc he' Z.c.cls
  refine ⟨_,rfl,_,_,_,_,rfl,hx,.ref (R.k.no oK),_,rfl,Zc7 ?_⟩
  refine ⟨_,rfl,_,_,_,_,rfl,hx,.ref (R.n.no oN),_,rfl,Zc7 ?_⟩
  refine ⟨_,rfl,_,_,_,_,rfl,hx,.ref (R.t.no oT),_,rfl,Zc7 ?_⟩
  refine ⟨_,rfl,_,_,_,_,rfl,hx,.ref (R.i.no oI),_,rfl,Zc7 ?_⟩
  refine ⟨_,rfl,_,_,_,_,rfl,hx,.ref (R.x.no oX),_,rfl,Zc7 ?_⟩
  refine ⟨_,rfl,_,_,_,_,rfl,hx,.ref (R.m.no oM),_,rfl,Zc7 ?_⟩
  refine ⟨_,rfl,_,_,_,_,rfl,hx,.ref (R.r.no oR),_,rfl,Zc7 ?_⟩
  refine ⟨_,rfl,_,_,_,_,rfl,hx,.ref Zly,_,rfl,ZjY ?_⟩
  exact ⟨_,rfl,_,_,_,_,rfl,hx,.ty (Zpo K Z.v),k _ S1⟩
theorem sc_l_right:FnScope ["_law_kind_here", "_law_prime_here", "_law_table", "_law_columns", "_law_size_here", "_law_handed", "_law_found", "_law_row", "_law_leads_here", "_law_column", "_law_many", "_law_some", "_law_last", "_law_k"] ["_law_kind_here", "_law_prime_here", "_law_table", "_law_columns"] (Zah Zfa):=‹2›
theorem Zhx(h:Here K mg "_law_right" Zfa) (T:Nm mg) (h_room:HasX P w K mg base "room" 10 ["kind", "A", "columns"] (ZgL CF CR cF)) (h_l_is_row:Has P w K mg base "_law_is_row" 10 ["_law_prime_here", "_law_found", "_law_many"] ZcD) (h_l_leads:Has P w K mg base "_law_leads" 10 ["_law_prime_here", "_law_rows"] Zeq) (h_l_image:Has P w K mg base "_law_image" 10 ["_law_prime_here", "_law_table", "_law_column"] Zep) (h_l_within:Has P w K mg base "_law_within" 10 ["_law_prime_here", "_law_rows", "_law_leads_here", "_law_column"] ZdC) (h_l_ranked:Has P w K mg base "_law_ranked" 10 ["_law_prime_here", "_law_rows"] ZdB):Has P w K mg base "_law_right" 11 ["_law_kind_here", "_law_prime_here", "_law_table", "_law_columns"] (Zc3 CF CR):=by
  refine h.has (λf fd F=>F.binds λ_ _ _ _ _ _ us hl=>by obtain ⟨_,_,_,_,rfl⟩:=ZnV hl; exact rfl) λf fd F=>F.ok sc_l_right (λvs H Q E h=>?_) (λcdv A outer s H vs Q E hr h=>?_)
  · obtain ⟨_,_,_,_,_,_,_,_,_,rfl,_⟩:=h
    rfl
  obtain ⟨κ,sk,ta,ca,rs,cas,A,cs,m,rfl,hk,tb,sq,m7,m3,qA,⟨hC,rC⟩,c7,wC,qC,k⟩:=h
  have nd:=sc_l_right.nd
  refine ⟨_,(Zab (Zaj (i:=4) nd rfl (Or.inl rfl) (Zak Zai (by rfl) T.len boot_len (Zaa (pv 2) Zac)))
    (Zab (Zaj (i:=5) nd rfl (Or.inl rfl) (ZaQ (Zaa (ZaX ["_law_row"] [] rfl (ZaC (pv 2)) (by exact λ_ _ _ _=>(Zar (i:=0) (show (["_law_row"]:List Str).Nodup by decide +kernel) rfl (Or.inl rfl))) (by exact λ_ _ _ _=>(Zbc (Zbn K rfl) (by rfl) T.list boot_list (Zaa (pv 0) Zac))) trivial) (Zaa (ZaX ["_law_column"] [] rfl (ZaC (pv 3)) (by exact λ_ _ _ _=>(Zar (i:=0) (show (["_law_column"]:List Str).Nodup by decide +kernel) rfl (Or.inl rfl))) (by exact λ_ _ _ _=>(Zbc (Zbn K rfl) (by rfl) T.list boot_list (Zaa (pv 0) Zac))) trivial) Zac))))
    (Zab (Zaj (i:=6) nd rfl (Or.inl rfl) (ZcN h_room Zdl hr (by rfl) (Zaa (pv 0) (Zaa (Zam Zau (pv 5) Zad (λ_ _=>rfl)) (Zaa (Zam Zau (pv 5) Zad (λ_ _=>rfl)) Zac)))))
    (Zab (ZaB (Zdj (ZbD (ZaY (Zak Zaz (by rfl) T.isinstance boot_isinstance (Zaa (pv 6) (Zaa (Zg2 (by rfl) T.list boot_list) Zac))))) (ZdE (Zap (Zmm hr) (pv 5) (ZaQ (Zaa (pv 2) (Zaa (pv 3) Zac))) (Zas _)))).pt (Zae (Zal Zcj)) Zat)
    (Zab (ZaI PassesOwn.never rfl (ZaC (pv 6)) (Zar (i:=7) nd rfl (Or.inl rfl)) (Zae (ZaB (ZbD (ZaY (Zan h_l_is_row hr (by rfl) (Zaa (pv 1) (Zaa (pv 7) (Zaa (pv 4) Zac)))))) (Zae (Zal Zcj)) Zat)))
    (Zab (Zaj (i:=8) nd rfl (Or.inl rfl) (Zan h_l_leads hr (by rfl) (Zaa (pv 1) (Zaa (pv 6) Zac))))
    (Zab (ZaB (Zap Zn8 (pv 8) ZfL (Zas _)) (Zae (Zal Zcj)) Zat)
    (Zab (ZaI PassesOwn.never rfl (ZaC (Zao Zit (pv 3) (ZaX ["_law_row"] [(1, "_law_prime_here"),(2, "_law_table")] rfl (ZaC (pv 6)) (by exact λ_ _ _ _=>(Zar (i:=0) (show (["_law_row", "_law_prime_here", "_law_table"]:List Str).Nodup by decide +kernel) rfl (Or.inl rfl))) (by exact λ_ _ _ _=>(Zan h_l_image hr (by rfl) (Zaa (pv 1) (Zaa (pv 2) (Zaa (pv 0) Zac))))) ⟨⟨rfl,rfl,Or.inl rfl⟩,⟨⟨rfl,rfl,Or.inl rfl⟩,trivial⟩⟩))) (Zar (i:=9) nd rfl (Or.inl rfl)) (Zae (ZaB (ZbD (ZaY (Zan h_l_within hr (by rfl) (Zaa (pv 1) (Zaa (pv 6) (Zaa (pv 8) (Zaa (pv 9) Zac))))))) (Zae (Zal Zcj)) Zat)))
    (Zab (Zaj (i:=10) nd rfl (Or.inl rfl) (Zak Zai (by rfl) T.len boot_len (Zaa (pv 6) Zac)))
    (Zab (ZaI PassesOwn.never rfl (ZaC (pv 6)) (Zar (i:=7) nd rfl (Or.inl rfl)) (Zae (ZaE (ZeC PySem.F.plainAttrs_list PySem.F.slot_list_append PySem.F.type_list_append Za3 (pv 7) (Zaa ZfL Zac)))))
    (Zab (ZaE (ZeC PySem.F.plainAttrs_list PySem.F.slot_list_append PySem.F.type_list_append Za3 (pv 6) (Zaa ZfL Zac)))
    (Zab (ZaB (Zap (Zmm hr) (pv 5) (ZaQ (Zaa (pv 2) (Zaa (pv 3) Zac))) (Zas _)) (Zae (Zal Zcj)) Zat)
    (Zab (Zaj (i:=11) nd rfl (Or.inl rfl) (ZaQ Zac))
    (Zab (ZaI PassesOwn.never rfl (ZaC (pv 3)) (Zar (i:=9) nd rfl (Or.inl rfl)) (Zab (Zaj (i:=12) nd rfl (Or.inl rfl) (Zbc ZbZ (by rfl) T.list boot_list (Zaa (pv 9) Zac)))
      (Zae (ZaI PassesOwn.never rfl (Zay (by rfl) T.range (Zaa (pv 4) Zac)) (Zar (i:=13) nd rfl (Or.inl rfl)) (Zab (ZaE (ZeC PySem.F.plainAttrs_list PySem.F.slot_list_append PySem.F.type_list_append Za3 (pv 11) (Zaa (pv 12) Zac)))
        (Zae (Zaj (i:=12) nd rfl (Or.inl rfl) (Zan h_l_image hr (by rfl) (Zaa (pv 1) (Zaa (pv 2) (Zaa (pv 12) Zac)))))))))))
    (Zab (ZaB (Zap (Zoz hr) (pv 11) (ZaQ Zac) (Zas _)) (Zae (Zal (Zbk Za9 (pv 10) Zad (Zas _)))) Zat)
    (Zae (Zal (Zbk Za9 (pv 10) (Zan h_l_ranked hr (by rfl) (Zaa (pv 1) (Zaa (pv 11) Zac))) (Zas _))))))))))))))))))),?_⟩
  have lr:=tb.r.1
  have lC:=rC.1
  have n1:=tb.n1
  refine ⟨_,rfl,ta,_,rfl,.inl (SqL.of tb.l),?_⟩
  refine ⟨_,rfl,ta,rfl,⟨_,SqL.of tb.l⟩,?_⟩
  refine ZaL (K:=K) (a:=ta) (xs:=rs.map V.ref) (λt ys H9=>Same H H9/\∃hs:List Addr,ys=hs.map V.ref/\RowsX κ H9 hs (A.take t)) (by rw[Q1]; omega) ⟨Same.refl _,[],rfl,by rw[W9]; exact .nil⟩ (λt ys H9 _ q=>SqL.of (q.1 _ _ tb.l)) ?_ ?_
  · rintro t x ys H9 hx hl ⟨S9,hs,rfl,rh⟩
    obtain ⟨b,hb',rfl⟩:=Zaw hx
    obtain ⟨g,hg⟩:=Zax hb' lr
    obtain ⟨xs,hxs,al⟩:=tb.r.2 t b g hb' hg
    refine ⟨_,rfl,b,xs,rfl,.inl (SqL.of (S9 _ _ hxs)),λn nn=>?_⟩
    have Sn:=Zag nn (.lst xs)
    refine ⟨S9.trans Sn,hs++[n],by simp,?_⟩
    rw[Qq,hg]
    exact (rh.same Sn).snoc Zaf (al.mono λ_ _ n=>n.same (S9.trans Sn))
  rintro ys H1 _ ⟨S1,hs,rfl,rh⟩ l1 nl1
  rw[Q1,lr,Qz] at rh
  have Sl1:=Zag nl1 (.lst (hs.map V.ref))
  have ql1:=Zaf (H:=H1) (a:=l1) (o:=.lst (hs.map V.ref))
  have rh2:=rh.same Sl1
  generalize upd H1 l1 (.lst (hs.map V.ref))=H2 at *
  have S02:=S1.trans Sl1
  refine ⟨_,rfl,ca,rfl,⟨_,SqL.of (S02 _ _ hC)⟩,?_⟩
  refine ZaL (K:=K) (a:=ca) (xs:=cas.map V.ref) (λt ys H9=>Same H2 H9/\∃hs:List Addr,ys=hs.map V.ref/\RowsX κ H9 hs (cs.take t)) (by rw[Q1]; omega) ⟨Same.refl _,[],rfl,by rw[W9]; exact .nil⟩ (λt ys H9 _ q=>SqL.of ((S02.trans q.1) _ _ hC)) ?_ ?_
  · rintro t x ys H9 hx hl ⟨S9,hs,rfl,rh⟩
    obtain ⟨b,hb',rfl⟩:=Zaw hx
    obtain ⟨g,hg⟩:=Zax hb' lC
    obtain ⟨xs,hxs,al⟩:=rC.2 t b g hb' hg
    refine ⟨_,rfl,b,xs,rfl,.inl (SqL.of ((S02.trans S9) _ _ hxs)),λn nn=>?_⟩
    have Sn:=Zag nn (.lst xs)
    refine ⟨S9.trans Sn,hs++[n],by simp,?_⟩
    rw[Qq,hg]
    exact (rh.same Sn).snoc Zaf (al.mono λ_ _ n=>n.same (S02.trans (S9.trans Sn)))
  rintro ys H3 _ ⟨S3,hc,rfl,rhc⟩ l2 nl2
  rw[Q1,lC,Qz] at rhc
  have Sl2:=Zag nl2 (.lst (hc.map V.ref))
  have ql2:=Zaf (H:=H3) (a:=l2) (o:=.lst (hc.map V.ref))
  have rhc3:=rhc.same Sl2
  generalize upd H3 l2 (.lst (hc.map V.ref))=H3' at *
  refine ⟨(by show 2<=sizeLine; decide),λhd nhd=>?_⟩
  have Sh:=Zag nhd (.lst [.ref l1,.ref l2])
  have qh:=Zaf (H:=H3') (a:=hd) (o:=.lst [.ref l1,.ref l2])
  have rhc4:=rhc3.same Sh
  have ql24:=Sh _ _ ql2
  have S24:=S3.trans (Sl2.trans Sh)
  have rh4:=rh2.same S24
  have ql14:=S24 _ _ ql1
  generalize upd H3' hd (.lst [.ref l1,.ref l2])=H4 at *
  have S04:=S02.trans S24
  have th4:TabL κ H4 l1 hs A m:=⟨ql14,rh4,tb.w,tb.n1,tb.n9,tb.m9⟩
  have rpH:∀ {H':Hp},Same H4 H'->Rp H' 8 (.ref hd) (.list [Zot A,Zot cs]):=λS=>(Zhe (S _ _ qh) (.cons ((rh4.same S).rp (S _ _ ql14)) (.cons ((rhc4.same S).rp (S _ _ ql24)) .nil))).mono ∅
  have rpN:∀ {H':Hp} {a:Addr},Same H H'->H' a=some (.lst [.ref ta,.ref ca])->Rp H' 8 (.ref a) (.list [Zot A,Zot cs]):=λS ha=>(Zhe ha (.cons ((tb.r.same S).rp (S _ _ tb.l)) (.cons ((rC.same S).rp (S _ _ hC)) .nil))).mono ∅
  refine ⟨_,rfl,_,rfl,hd,_,0,_,rfl,rfl,SqL.of qh,rfl,_,rfl,hd,_,1,_,rfl,rfl,SqL.of qh,rfl,κ,sk,l1,l2,hs,hc,A,cs,m,rfl,hk.same S04,th4,⟨ql24,rhc4⟩,⋯,(λz=>?_),λ_ _=>⟨m7,m3,qA,qC,λH5 D rw Rw ls S5 nD hD rx nrw ndw nDw ro=>?_⟩⟩
  · exact absurd z (by
      rintro (z | ⟨c,hc,z⟩)
      · exact z sq
      · exact z (by rw[sq]; exact wC c hc))
  have S05:=S04.trans S5
  have lw:=rx.1
  have lw2:=ro.l
  have lls:=ro.e.lc
  refine ⟨_,rfl,_,_,_,_,rfl,.of (.lst hD),.ty (ZdG K _),_,rfl,Zc7 ?_⟩
  refine ⟨_,rfl,_,rfl,_,rfl,(by show 2<=sizeLine; decide),λw1 nw1=>?_⟩
  have Sw:=Zag nw1 (.lst [.ref ta,.ref ca])
  have qw:=Zaf (H:=H5) (a:=w1) (o:=.lst [.ref ta,.ref ca])
  generalize upd H5 w1 (.lst [.ref ta,.ref ca])=H6 at *
  have S46:=S5.trans Sw
  have S06:=S04.trans S46
  refine ⟨_,rpH S46,rpN S06 qw,_,rfl,Zc7 ?_⟩
  have hD6:=Sw _ _ hD
  have rx6:=rx.same Sw
  clear S5 S05 hD rx Sw qw nw1
  refine ⟨_,rfl,D,rfl,⟨_,SqL.of hD6⟩,?_⟩
  refine Za8 (xs:=rw.map V.ref) (λi σ H7=>∃z7:Option V,σ=[some (.ref sk),some (.int κ.P),some (.ref ta),some (.ref ca),some (.int ((rs.map V.ref).length:Int)),some (.ref hd),some (.ref D),z7,none,none,none,none,none,none]/\H6=H7) ⟨_,rfl,rfl⟩ ?_ ?_ ?_
  · rintro i σ H7-⟨z7,rfl,rfl⟩
    exact SqL.of hD6
  · rintro i x σ H7 hx ⟨z7,rfl,rfl⟩
    obtain ⟨b,hb',rfl⟩:=Zaw hx
    obtain ⟨g,hg⟩:=Zax hb' lw
    obtain ⟨xs,hxs,al⟩:=rx6.2 i b g hb' hg
    refine ⟨_,rfl,_,rfl,_,rfl,κ,b,xs,g,?_,hxs,al,_,rfl,Zc7 ⟨_,rfl,rfl⟩⟩
    rw[Q1,lr,sq,ro.w g (Q8 hg)]; rfl
  rintro σ H7 ⟨z7,rfl,rfl⟩
  refine ⟨_,rfl,_,rfl,κ,D,rw,Rw,m,ls,rfl,hD6,rx6,ro.w,m7,ro.l,ro.e,λH7 L S7 nL qL=>?_⟩
  refine ⟨_,rfl,rfl,_,rfl,ZcW (λz=>by cases z) ?_⟩
  have S47:=S46.trans S7
  have S07:=S04.trans S47
  have hD7:=S7 _ _ hD6
  have rx7:=rx6.same S7
  obtain ⟨Dz,Mz,d0,dl,ml,qz⟩:=ro.sz m3 qA (λc hc=>qC c hc)
  refine ⟨_,rfl,_,rfl,D,rfl,⟨_,SqL.of hD7⟩,?_⟩
  refine ZaL (K:=K) (a:=D) (xs:=rw.map V.ref) (λt ys H9=>Same H7 H9/\∃is:List Addr,ys=is.map V.ref/\RowsX κ H9 is ((Rw.take t).map (Zib A))) (by rw[Q1]; omega) ⟨Same.refl _,[],rfl,by rw[W9]; exact .nil⟩ (λt ys H9 _ q=>SqL.of (q.1 _ _ hD7)) ?_ ?_
  · rintro t x ys H9 hx hl ⟨S9,is,rfl,ri⟩
    obtain ⟨b,hb',rfl⟩:=Zaw hx
    obtain ⟨g,hg⟩:=Zax hb' lw
    obtain ⟨xs,hxs,al⟩:=rx7.2 t b g hb' hg
    have lg:=ro.w g (Q8 hg)
    have S09:=S07.trans S9
    refine ⟨_,rfl,_,rfl,_,rfl,κ,ta,b,rs,A,xs,g,Dz,Mz,rfl,S09 _ _ tb.l,tb.r.same S09,(by rw[lg]; exact tb.w),⋯,⋯,S9 _ _ hxs,al.mono (λ_ _ n=>n.same S9),qA,qz g (Q8 hg),d0,Q0 dl ∅,Q0 ml ∅,λHa E9 y9 Sa nE hE aE=>⟨S9.trans Sa,is++[E9],by simp,?_⟩⟩
    rw[Qq,hg,Qn]
    exact (ri.same Sa).snoc hE aE
  rintro ys H8 _ ⟨S8,is,rfl,ri⟩ il nil
  rw[Q1,lw,Qz] at ri
  have Sil:=Zag nil (.lst (is.map V.ref))
  have qil:=Zaf (H:=H8) (a:=il) (o:=.lst (is.map V.ref))
  have ri8:=ri.same Sil
  generalize upd H8 il (.lst (is.map V.ref))=H9 at *
  have S79:=S8.trans Sil
  have S09:=S07.trans S79
  have li:=ri.1
  rw[Q1] at li
  refine ⟨ca,il,_,_,rfl,rfl,S09 _ _ hC,qil,?_,λp np=>?_⟩
  · rw[Q1,Q1]
    exact Q0 (show cas.length+is.length<=1000 by omega) ∅
  have e7:cas.map V.ref++is.map V.ref=(cas++is).map V.ref:=Qn.symm
  rw[e7]
  have Sp:=Zag np (.lst ((cas++is).map V.ref))
  have qp:=Zaf (H:=H9) (a:=p) (o:=.lst ((cas++is).map V.ref))
  generalize upd H9 p (.lst ((cas++is).map V.ref))=Ha at *
  have S7a:=S79.trans Sp
  have S0a:=S07.trans S7a
  have rca:RowsX κ Ha (cas++is) (cs++Rw.map (Zib A)):=(rC.same S0a).cat (ri8.same Sp)
  refine ⟨p,rfl,⟨_,SqL.of qp⟩,?_⟩
  refine Za8 (xs:=(cas++is).map V.ref) (λi σ Hb=>∃z9:Option V,σ=[some (.ref sk),some (.int κ.P),some (.ref ta),some (.ref ca),some (.int ((rs.map V.ref).length:Int)),some (.ref hd),some (.ref D),z7,some (.ref L),z9,none,none,none,none]/\Same Ha Hb) ⟨_,rfl,Same.refl _⟩ ?_ ?_ ?_
  · rintro i σ Hb-⟨z9,rfl,Sb⟩
    exact SqL.of (Sb _ _ qp)
  · rintro i x σ Hb hx ⟨z9,rfl,Sb⟩
    obtain ⟨b,hb',rfl⟩:=Zaw hx
    obtain ⟨g,hg⟩:=Zax hb' rca.1
    obtain ⟨xs,hxs,al⟩:=rca.2 i b g hb' hg
    have mg':=Qj.mp (Q8 hg)
    have S7b:=S7a.trans Sb
    have lg:g.length=m:=by
      rcases mg' with y | y
      · exact wC g y
      · obtain ⟨f,_,rfl⟩:=Ql.mp y
        rw[ZiS,sq]
    have sz:LfS κ g Rw:=by
      rcases mg' with y | y
      · exact ro.lfC m3 qA qC (qC g y)
      · obtain ⟨f,hf,rfl⟩:=Ql.mp y
        exact ro.lfI m7 m3 tb.w qA qC hf
    have win:∀j,j<m->g.getD j 0=Rg.Sg (λk=>g.getD (ls.getD k 0) 0*ent Rw k j) ls.length:=by
      rcases mg' with y | y
      · exact ro.col y
      · obtain ⟨f,hf,rfl⟩:=Ql.mp y
        exact ro.img sq hf
    exact ⟨_,rfl,_,rfl,_,rfl,_,rfl,κ,D,L,b,rw,Rw,ls,xs,g,m,rfl,S7b _ _ hD7,rx7.same S7b,ro.l,⋯,ro.w,m7,S7b _ _ qL,ro.e.lt,⟨Sb _ _ hxs,al.mono λ_ _ n=>n.same Sb⟩,lg,sz,win,λHc Sc=>⟨_,rfl,Zc7 ⟨_,rfl,Sb.trans Sc⟩⟩⟩
  rintro σ Hb ⟨z9,rfl,Sb⟩
  have S7b:=S7a.trans Sb
  have S4b:=S47.trans S7b
  have hDb:=S7b _ _ hD7
  have rxb:=rx7.same S7b
  clear S7 qL Sb S7a S7b rca qp Sp np ri8 qil Sil nil S8 ri nL
  refine ⟨_,rfl,D,_,rfl,.inl (SqL.of hDb),?_⟩
  refine ⟨_,rfl,D,rfl,⟨_,SqL.of hDb⟩,?_⟩
  refine Za8 (xs:=rw.map V.ref) (λi σ Hi=>∃(z7:Option V),σ=[some (.ref sk),some (.int κ.P),some (.ref ta),some (.ref ca),some (.int ((rs.map V.ref).length:Int)),some (.ref hd),some (.ref D),z7,some (.ref L),z9,some (.int ((rw.map V.ref).length:Int)),none,none,none]/\Off rw Hb Hi/\∀(j:Nat) a,rw[j]?=some a->i<=j->∃xs:List V,xs.length=m/\Hi a=some (.lst xs)) ⟨_,rfl,λ_ _ _ q=>q,λj a ha _=>?_⟩ ?_ ?_ ?_
  · obtain ⟨f,hf⟩:=Zax ha lw
    obtain ⟨xs,hx,fl⟩:=rxb.2 j a f ha hf
    exact ⟨xs,by rw[fl.1]; exact ro.w f (Q8 hf),hx⟩
  · rintro i σ Hi-⟨z7,rfl,O,-⟩
    exact SqL.of (O _ _ nDw hDb)
  · rintro i x σ Hi hx ⟨z7,rfl,O,rows⟩
    obtain ⟨a,ha,rfl⟩:=Zaw hx
    obtain ⟨xs,lx,hxs⟩:=rows i a ha (Q4 _)
    refine ⟨_,rfl,.inl ⟨rfl,_,SqL.of hxs⟩,a,xs,.non,rfl,rfl,hxs,Q7 (show xs.length<1000 by omega) ∅,?_⟩
    refine ⟨_,rfl,λb o nb q=>?_,λj b hb le=>?_⟩
    · rw[Zav (λz=>nb (by rw[z]; exact Q8 ha))]
      exact O b o nb q
    · obtain ⟨ys,ly,hys⟩:=rows j b hb ⋯
      have nba:b≠a:=λz=>by
        have:=Zfb ndw (by rw[<-z]; exact hb) ha
        omega
      exact ⟨ys,ly,by rw[Zav nba]; exact hys⟩
  rintro σ Hc ⟨z7c,rfl,O,-⟩
  have S4c:Same H4 Hc:=Off.same O S4b nrw
  have hDc:=O _ _ nDw hDb
  refine ⟨_,rfl,.inl ⟨rfl,_,SqL.of hDc⟩,D,_,.non,rfl,rfl,hDc,Q7 (show (rw.map V.ref).length<1000 by rw[Q1]; omega) ∅,?_⟩
  have O8:Off [D] Hc (upd Hc D (.lst (rw.map V.ref++[.non]))):=ZaH (Same.refl Hc)
  have S4d:Same H4 (upd Hc D (.lst (rw.map V.ref++[.non]))):=Off.same O8 S4c (λz hz=>by rw[Q5.mp hz]; exact nD)
  generalize upd Hc D (.lst (rw.map V.ref++[.non]))=Hd at *
  have S0d:=S04.trans S4d
  refine ⟨_,rfl,_,rfl,_,rfl,(by show 2<=sizeLine; decide),λw2 nw2=>?_⟩
  have Sv:=Zag nw2 (.lst [.ref ta,.ref ca])
  have qv:=Zaf (H:=Hd) (a:=w2) (o:=.lst [.ref ta,.ref ca])
  generalize upd Hd w2 (.lst [.ref ta,.ref ca])=He at *
  refine ⟨_,rpH (S4d.trans Sv),rpN (S0d.trans Sv) qv,_,rfl,Zc7 ?_⟩
  have S0e:=S0d.trans Sv
  clear rpH rpN S4d Sv qv nw2 O8 S4c hDc O S4b hDb rxb S0d
  refine ⟨(by show 0<=sizeLine; decide),λso nso=>?_⟩
  have Ss:=Zag nso (.lst [])
  have qs:=Zaf (H:=He) (a:=so) (o:=.lst [])
  generalize upd He so (.lst [])=Hf at *
  have S0f:=S0e.trans Ss
  have nso0:H so=none:=S0e.free nso
  refine ⟨_,rfl,ca,rfl,⟨_,SqL.of (S0f _ _ hC)⟩,?_⟩
  refine Za8 (xs:=cas.map V.ref) (λi σ Hg=>∃(z9 z12 z13:Option V) (ss:List Addr),σ=[some (.ref sk),some (.int κ.P),some (.ref ta),some (.ref ca),some (.int ((rs.map V.ref).length:Int)),some (.ref hd),some (.ref D),z7c,some (.ref L),z9,some (.int ((rw.map V.ref).length:Int)),some (.ref so),z12,z13]/\Same H Hg/\Hg so=some (.lst (ss.map V.ref))/\so∉ss/\RowsX κ Hg ss (ZjD A m (cs.take i))) ⟨_,_,_,[],rfl,S0f,qs,(λh=>nomatch h),by rw[W9]; exact .nil⟩ ?_ ?_ ?_
  · rintro i σ Hg-⟨z9,z12,z13,ss,rfl,Sg',-⟩
    exact SqL.of (Sg' _ _ hC)
  · rintro i x σ Hg hx ⟨z9,z12,z13,ss,rfl,Sg',hs',nss,rs'⟩
    obtain ⟨b,hb',rfl⟩:=Zaw hx
    obtain ⟨c,hcc⟩:=Zax hb' lC
    obtain ⟨xs,hxs,al⟩:=rC.2 i b c hb' hcc
    have mc:=Q8 hcc
    have hi:i<cs.length:=(Qk.mp hcc).1
    have lc:=wC c mc
    refine ⟨_,rfl,b,xs,rfl,.inl (SqL.of (Sg' _ _ hxs)),λl nl=>?_⟩
    have Sl:=Zag nl (.lst xs)
    have ql:=Zaf (H:=Hg) (a:=l) (o:=.lst xs)
    generalize upd Hg l (.lst xs)=Hh at *
    have nls:l≠so:=λz=>by rw[z,hs'] at nl; cases nl
    refine ⟨_,rfl,((rs.map V.ref).length:Int),rfl,⋯,by rw[Q1]; omega,?_⟩
    rw[Q1,lr,sq,Q6]
    have lk:=Zil A m (cs.take i)
    have lt:(cs.take i).length*m<=7*7:=Qm (by rw[Qi]; omega) m7
    refine ZaG (lo:=0) (n:=m) (λq σ Hi=>∃(z13:Option V) (ss:List Addr) (la:Addr) (zs:List V),σ=[some (.ref sk),some (.int κ.P),some (.ref ta),some (.ref ca),some (.int (m:Int)),some (.ref hd),some (.ref D),z7c,some (.ref L),some (.ref b),some (.int ((rw.map V.ref).length:Int)),some (.ref so),some (.ref la),z13]/\Same H Hi/\Hi so=some (.lst (ss.map V.ref))/\so∉ss/\la≠so/\ColL κ Hi la zs (imL A m c q)/\RowsX κ Hi ss (ZjD A m (cs.take i)++(List.range q).map (imL A m c))) ⟨_,ss,l,xs,rfl,Sg'.trans Sl,Sl _ _ hs',nss,nls,⟨ql,by rw[ZpD lc]; exact al.mono λ_ _ n=>n.same (Sg'.trans Sl)⟩,by rw[List.range_zero,List.map_nil,Us]; exact rs'.same Sl⟩ ?_ ?_
    · rintro q σ Hi hq ⟨z13,ss,la,zs,rfl,Si,hs2,ns2,nla,cl,r2⟩
      have l2:=r2.1
      rw[Qb,lk,Q1,Wd] at l2
      refine ⟨_,rfl,.inl ⟨rfl,_,SqL.of hs2⟩,_,rfl,so,_,_,rfl,rfl,hs2,Q7 (show (ss.map V.ref).length<1000 by rw[Q1]; omega) ∅,?_⟩
      have O:Off [so] Hi (upd Hi so (.lst (ss.map V.ref++[V.ref la]))):=ZaH (Same.refl Hi)
      have cl2:ColL κ (upd Hi so (.lst (ss.map V.ref++[V.ref la]))) la zs (imL A m c q):=⟨O _ _ (λz=>nla (Q5.mp z)) cl.l,cl.al.mono λ_ _ n=>n.off hs2 O⟩
      have r3:RowsX κ (upd Hi so (.lst (ss.map V.ref++[V.ref la]))) (ss++[la]) (ZjD A m (cs.take i)++(List.range (q+1)).map (imL A m c)):=by
        rw[List.range_succ,Qn,<-List.append_assoc]
        exact (r2.off ns2 hs2 O).snoc cl2.l cl2.al
      have Sj:Same H (upd Hi so (.lst (ss.map V.ref++[V.ref la]))):=Off.same O Si (λz hz=>by rw[Q5.mp hz]; exact nso0)
      have q3:upd Hi so (.lst (ss.map V.ref++[V.ref la])) so=some (.lst ((ss++[la]).map V.ref)):=by rw[Zaf,Qn]; rfl
      generalize upd Hi so (.lst (ss.map V.ref++[V.ref la]))=Hj at *
      have lim:=Zdz A m c q
      refine ⟨_,rfl,_,rfl,_,rfl,κ,ta,la,rs,A,zs,imL A m c q,12^(q+1),756^q*108,rfl,Sj _ _ tb.l,tb.r.same Sj,(by rw[lim]; exact tb.w),⋯,⋯,cl2.l,cl2.al,qA,ZoQ m7 qA (qC c mc) q,Uf ∅,Q0 (Qd ∅ (show q+1<=8 by omega)) ∅,Q0 (W3 _ (Qd ∅ (show q<=7 by omega))) ∅,λHk E9 y9 Sk nE hE aE=>?_⟩
      rw[<-Zl2 sq] at aE
      refine ⟨_,ss++[la],E9,y9,rfl,Sj.trans Sk,Sk _ _ q3,?_,(λz=>by rw[z,q3] at nE; cases nE),⟨hE,aE⟩,r3.same Sk⟩
      intro z
      rcases Qj.mp z with z | z
      · exact ns2 z
      · exact nla (Q5.mp z).symm
    · rintro σ Hi ⟨z13,ss,la,zs,rfl,Si,hs2,ns2,nla,cl,r2⟩
      rw[<-Zmc,show cs.take i++[c]=cs.take (i+1) by rw[Qq,hcc]; rfl] at r2
      exact ⟨_,_,_,ss,rfl,Si,hs2,ns2,r2⟩
  rintro σ Hg ⟨z9',z12,z13,ss,rfl,Sg',hs',nss,rs'⟩
  rw[Q1,lC,Qz] at rs'
  have lss:=rs'.1
  have lk:=Zil A m cs
  refine ⟨_,rfl,(by show 0<=sizeLine; decide),λem nem=>?_⟩
  have Se:=Zag nem (.lst [])
  have qe:=Zaf (H:=Hg) (a:=em) (o:=.lst [])
  generalize upd Hg em (.lst [])=Hh at *
  have S0h:=Sg'.trans Se
  refine ⟨so,em,_,rfl,rfl,Se _ _ hs',qe,_,rfl,?_⟩
  refine Zbq (λz=>?_) (λz=>?_)
  · rw[Q1,lss,lk] at z
    have c0:cs=[]:=by
      refine List.eq_nil_of_length_eq_zero ?_
      rcases Nat.mul_eq_zero.mp z with y | y
      · exact y
      · omega
    subst c0
    have l0:=ro.none
    have r0:rw.length=0:=by rw[lw,lw2,l0]; rfl
    refine ⟨_,rfl,rfl,?_⟩
    rw[Q1,r0]
    exact k _ S0h
  · rw[Q1,lss,lk] at z
    have lt:cs.length*m<=7*7:=Qm c7 m7
    have wk:Wid m (ZjD A m cs):=λf hf=>by
      obtain ⟨c,_,q,_,rfl⟩:=kry_mem.mp hf
      exact Zdz _ _ _ _
    refine ⟨_,rfl,_,rfl,_,rfl,κ,so,ss,ZjD A m cs,cs.length*m,m,rfl,Se _ _ hs',rs'.same Se,lk,wk,⋯,⋯,m7,m3,ZoY m7 m3 qA qC,λHi R' ls' Si kr ech=>?_⟩
    have el:=ro.rank lk kr ech (λf hf=>by
      obtain ⟨c,hc,q,_,e⟩:=kry_mem.mp hf
      exact ⟨c,hc,q,e⟩) (λc hc q hq=>kry_mem.mpr ⟨c,hc,q,hq,rfl⟩)
    refine ⟨rfl,?_⟩
    rw[el,Q1,lw,lw2]
    have:decide (V.int (ls.length:Int)=V.int (ls.length:Int))=true:=decide_eq_true rfl
    rw[this]
    exact k _ (S0h.trans Si)
end
end My
namespace My
open PySem L2 PyProof.Rows
inductive sp_law (K:PySem.W.Frag) (vs:List V) (H:Hp) (Q:VK) (zE:XK):Prop
  | mk (a:Addr) (ns:List Int) (_:vs=[.ref a]) (_:SqL K H a (ns.map V.int)) (_:ns.length<=63) (_:(∀i∈ns,Bits 1048576 i)) (_:∀H',Q (.bl true) H'):sp_law K vs H Q zE
theorem Zmd(ns:List Int)(lo hi:Option Int):∃ms:List Int,ZeT (ns.map V.int) lo hi=ms.map V.int/\ms.length<=ns.length:=by
  unfold ZeT
  rw[<-List.map_drop,<-Uo]
  exact ⟨_,rfl,by rw[Qi,Wj]; omega⟩
theorem ZiV{K:PySem.W.Frag}{H H':Hp}{a:Addr}{xs:List V}(h:SqL K H a xs)(S:Same H H'):SqL K H' a xs:=by
  rcases h with h | h
  · rcases h with h | ⟨o,h⟩
    · exact .inl (.inl (S _ _ h))
    · exact .inl (.inr ⟨o,S _ _ h⟩)
  · exact .inr h
theorem ZpH{C G X:Prop}(h:(C->G)->X)(hG:C->G):X:=h hG
theorem ZmI(x y:Int)(b:Bool):∃m:Int,atI [V.int x,V.int y] (if b=true then 1 else 0)=some (.int m)/\(m=x\/m=y):=by
  cases b
  · exact ⟨x,rfl,.inl rfl⟩
  · exact ⟨y,rfl,.inr rfl⟩
theorem ZnT{i:Nat}{x:V}{σ:L2.St}{H:Hp}{t u:TS}{D:Ends}{rt:VK}{bk ct:L2.St->Hp->Prop}(h:Zo1 t u D (σ.set i (some x)) H):ZeA i x σ H (Ends.nx ⟨Zo1 t u D,rt,bk,ct⟩):=h
theorem ZnU{t u:TS}{D:Ends}{σ:L2.St}{H:Hp}(N:L2.St->Hp->Prop)(h1:∀N':L2.St->Hp->Prop,(∀σ H,N σ H->N' σ H)->t { D with nx:=N' } σ H)(h2:∀σ H,N σ H->u D σ H):Zo1 t u D σ H:=h1 _ h2
theorem RowsX.dropK{κ:KX}{H:Hp}{as:List Addr}{R:List (List κ.F)}(h:RowsX κ H as R)(k:Nat):RowsX κ H (as.drop k) (R.drop k):=by
  refine ⟨by rw[Wj,Wj,h.1],λi a f ha hf=>?_⟩
  rw[List.getElem?_drop] at ha hf
  exact h.2 _ a f ha hf
theorem ZiW(as:List Addr)(lo hi:Option Int):∃a b:Nat,ZeT (as.map V.ref) lo hi=((as.drop a).take b).map V.ref:=by
  unfold ZeT
  exact ⟨_,_,by rw[<-List.map_drop,<-Uo]⟩
section
variable{P:Program}{w:World}{K:PySem.W.Frag}{mg:Str->Option Value}{base:Heap}{CF CR:Addr}
theorem sc_law:FnScope ["_law_script", "_law_prime_here", "_law_kind_here", "_law_cells", "_law_at", "_law_cell", "_law_size_here", "_law_table", "_law_many", "_law_columns", "_law_noughts", "_law_wrong", "_law_place"] ["_law_script"] (Zah Zne):=‹2›
theorem Zo0{f:Addr}{fd:FuncData}(F:Fun K "law" "law" Zne f fd) (T:Nm mg) (Tmin:mg "min" = none) (h_l_prime_by:Has P w K mg base "_law_prime_by" 11 ["_law_cell"] ZcC) (h_l_kind:Has P w K mg base "_law_kind" 11 ["_law_prime_here"] (Zfw CF CR)) (h_l_cell_at:Has P w K mg base "_law_cell_at" 11 ["_law_cells", "_law_k"] (Zb5 K)) (h_l_size:Has P w K mg base "_law_size" 11 ["_law_prime_here", "_law_cell"] ZdA) (h_l_rows_by:Has P w K mg base "_law_rows_by" 11 ["_law_prime_here", "_law_cells", "_law_at", "_law_rows", "_law_columns"] Zc1) (h_l_make:Has P w K mg base "_law_make" 11 ["_law_prime_here", "_law_number"] Zbj) (h_l_right:Has P w K mg base "_law_right" 11 ["_law_kind_here", "_law_prime_here", "_law_table", "_law_columns"] (Zc3 CF CR)) (h_l_refused:Has P w K mg base "_law_refused" 11 ["_law_kind_here", "_law_table", "_law_columns"] (Zce CF CR)):FnOk P w K mg base CX0 12 f fd ["_law_script"] (sp_law K):=by
  refine F.ok sc_law (λvs H Q E h=>?_) (λcdv A outer s H vs Q E hr h=>?_)
  · obtain ⟨_,_,rfl,_⟩:=h
    rfl
  obtain ⟨a,ns,rfl,hS,hl,hb,k⟩:=h
  have nd:=sc_law.nd
  refine ⟨_,(Zab (Zaj (i:=1) nd rfl (Or.inr rfl) (Zan h_l_prime_by hr (by rfl) (Zaa (Zan h_l_cell_at hr (by rfl) (Zaa (pv 0) (Zaa Zad Zac))) Zac)))
    (Zab (Zaj (i:=2) nd rfl (Or.inl rfl) (Zan h_l_kind hr (by rfl) (Zaa (pv 1) Zac)))
    (Zab (Zaj (i:=3) nd rfl (Or.inl rfl) (Zbl ZbQ (pv 0) Zcm (Zbs (Zam Zau (ZaQ (Zaa Zad (Zaa Zad Zac))) (Zbc ZgT (by rfl) T.int boot_int (Zaa (Zbk Za9 (pv 1) Zad (Zas _)) Zac)) (λ_ _=>rfl)))))
    (Zab (Zaj (i:=4) nd rfl (Or.inl rfl) Zad)
    (Zab (ZbN PassesOwn.never (Zdj (Zap Za9 (pv 4) Zad (Zas _)) (ZdE (Zap ZdW (pv 4) (Zak Zai (by rfl) T.len boot_len (Zaa (pv 3) Zac)) (Zas _)))).pt (Zab (Zaj (i:=5) nd rfl (Or.inl rfl) (Zan h_l_cell_at hr (by rfl) (Zaa (pv 3) (Zaa (pv 4) Zac))))
      (Zab (Zaj (i:=6) nd rfl (Or.inl rfl) (Zan h_l_size hr (by rfl) (Zaa (pv 1) (Zaa (pv 5) Zac))))
      (Zab (Zaj (i:=7) nd rfl (Or.inl rfl) (Zan h_l_rows_by hr (by rfl) (Zaa (pv 1) (Zaa (pv 3) (Zaa (Zao Za0 (pv 4) Zad) (Zaa (pv 6) (Zaa (pv 6) Zac)))))))
      (Zab (Zaj (i:=8) nd rfl (Or.inl rfl) (Zao Za1 (Zao Zb6 (pv 5) Zad) (Zam Zau (ZaQ (Zaa Zad (Zaa Zad Zac))) (Zbc ZgT (by rfl) T.int boot_int (Zaa (Zbk Za9 (pv 1) Zad (Zas _)) Zac)) (λ_ _=>rfl))))
      (Zab (Zaj (i:=4) nd rfl (Or.inl rfl) (Zao Za0 (Zao Za0 (pv 4) Zad) (Zao ZaA (pv 6) (pv 6))))
      (Zab (Zaj (i:=9) nd rfl (Or.inr rfl) (Zan h_l_rows_by hr (by rfl) (Zaa (pv 1) (Zaa (pv 3) (Zaa (pv 4) (Zaa (pv 8) (Zaa (pv 6) Zac)))))))
      (Zab (Zaj (i:=4) nd rfl (Or.inl rfl) (Zao Za0 (pv 4) (Zao ZaA (pv 6) (pv 8))))
      (Zab (ZaB (ZfM (Zap Za9 (pv 8) Zad (Zas _)) (ZdV (Zap Za9 (Zao ZbX (Zao Zb6 (pv 5) Zad) Zad) Zad (Zas _)))).pt (Zae (Zaj (i:=9) nd rfl (Or.inr rfl) (ZaX ["_law_k"] [(9, "_law_columns")] rfl (Zay (by rfl) T.range (Zaa Zad Zac)) (by exact λ_ _ _ _=>(Zar (i:=0) (show (["_law_k", "_law_columns"]:List Str).Nodup by decide +kernel) rfl (Or.inl rfl))) (by exact λ_ _ _ _=>(Zbc (Zbn K rfl) (by rfl) T.list boot_list (Zaa (Zam (Zdb K rfl) (pv 1) Zad (λ_ _=>rfl)) Zac))) ⟨⟨rfl,rfl,Or.inl rfl⟩,trivial⟩))) Zat)
      (Zab (ZaB (ZbD (ZaY (Zan h_l_right hr (by rfl) (Zaa (pv 2) (Zaa (pv 1) (Zaa (pv 7) (Zaa (pv 9) Zac))))))) (Zae (Zal Zcj)) Zat)
      (Zab (Zcf (i:=10) ["_law_k"] [(1, "_law_prime_here")] nd rfl rfl rfl (Zay (by rfl) T.range (Zaa (Zao ZcK (pv 6) Zad) Zac)) (by exact λ_ _ _ _=>(Zar (i:=0) (show (["_law_k", "_law_prime_here"]:List Str).Nodup by decide +kernel) rfl (Or.inl rfl))) (by exact λ_ _ _ _=>(Zan h_l_make hr (by rfl) (Zaa (pv 1) (Zaa Zad Zac)))) ⟨⟨rfl,rfl,Or.inl rfl⟩,trivial⟩)
      (Zab (ZaI PassesOwn.never rfl (ZaC (ZaQ (Zaa (pv 9) (Zaa (ZaQ (Zaa (pv 10) Zac)) (Zaa (ZaQ Zac) Zac))))) (Zar (i:=11) nd rfl (Or.inl rfl)) (Zae (ZaB (ZfM (Zap ZiY (pv 6) Zad (Zas _)) (ZdV (ZbD (ZaY (Zan h_l_refused hr (by rfl) (Zaa (pv 2) (Zaa (Zbl ZbQ (pv 7) (Zbs Zad) Zcm) (Zaa (pv 11) Zac)))))))).pt (Zae (Zal Zcj)) Zat)))
      (Zab (Zaj (i:=12) nd rfl (Or.inl rfl) (Zao Za1 (Zao Zb6 (pv 5) Zad) (Zao Za0 (Zak (ZgS rfl) (by rfl) Tmin PyProof.Rows.Boot.min (Zaa (Zak Zai (by rfl) T.len boot_len (Zaa (pv 9) Zac)) (Zaa Zad Zac))) Zad)))
      (Zab (Zcf (i:=11) ["_law_k"] [(1, "_law_prime_here")] nd rfl rfl rfl (Zay (by rfl) T.range (Zaa (Zao ZcK (Zao Za0 (pv 6) Zad) (Zao ZaA Zad (Zao ZbX (Zao Zb6 (pv 5) Zad) Zad))) Zac)) (by exact λ_ _ _ _=>(Zar (i:=0) (show (["_law_k", "_law_prime_here"]:List Str).Nodup by decide +kernel) rfl (Or.inl rfl))) (by exact λ_ _ _ _=>(Zan h_l_make hr (by rfl) (Zaa (pv 1) (Zaa Zad Zac)))) ⟨⟨rfl,rfl,Or.inl rfl⟩,trivial⟩)
      (Zae (ZaB (ZbD (ZaY (Zan h_l_refused hr (by rfl) (Zaa (pv 2) (Zaa (pv 7) (Zaa (Zao Zit (Zao Zit (Zbl ZbQ (pv 9) Zcm (Zbs (pv 12))) (ZaQ (Zaa (pv 11) Zac))) (Zbl ZbQ (pv 9) (Zbs (pv 12)) (Zbs Zad))) Zac)))))) (Zae (Zal Zcj)) Zat))))))))))))))))
    (Zae (Zal Zcj))))))),?_⟩
  refine ⟨_,rfl,a,ns,0,rfl,hS,Int.le_refl _,λc0=>?_⟩
  refine ⟨c0,rfl,λH1 pr S1 pk=>?_⟩
  refine ⟨_,rfl,pr,rfl,pk,λH2 kk S2 kd2=>?_⟩
  obtain ⟨κ,rfl,kx2⟩:=Zoq kd2
  have hS2:=ZiV hS (S1.trans S2)
  refine ⟨_,rfl,(by show 2<=sizeLine; decide),λl nl=>?_⟩
  have Sl:=Zag nl (.lst [.int 63,.int 16])
  have ql:=Zaf (H:=H2) (a:=l) (o:=.lst [.int 63,.int 16])
  generalize upd H2 l (.lst [.int 63,.int 16])=H3 at *
  obtain ⟨m,em,_⟩:=ZmI 63 16 (decide (V.int κ.P=V.int 0))
  refine ⟨_,rfl,rfl,.inr ⟨_,rfl,l,_,_,_,rfl,rfl,SqL.of ql,em,m,rfl,a,_,rfl,ZiV hS2 Sl,λca nca=>?_⟩⟩
  obtain ⟨ms,es,lms⟩:=Zmd ns none (some m)
  rw[es]
  have Sc:=Zag nca (.lst (ms.map V.int))
  have qc:=Zaf (H:=H3) (a:=ca) (o:=.lst (ms.map V.int))
  generalize upd H3 ca (.lst (ms.map V.int))=H4 at *
  have kx4:=kx2.same (Sl.trans Sc)
  refine ⟨λmm σ H'=>∃(at':Int) (z5 z6 z7 z8 z9 z10 z11 z12:Option V),mm=(200-at').toNat/\σ=[some (.ref a),some (.int κ.P),some (.ref kk),some (.ref ca),some (.int at'),z5,z6,z7,z8,z9,z10,z11,z12]/\Same H4 H'/\1<=at',⟨_,1,_,_,_,_,_,_,_,_,rfl,rfl,Same.refl _,∅⟩,?_⟩
  rintro mm σ H5 ⟨t,z5,z6,z7,z8,z9,z10,z11,z12,rfl,rfl,S5,t1⟩
  refine' ZpH (C:=t<=63) (λkb=>?cond) ?body
  case cond =>
    refine ⟨_,rfl,rfl,_,rfl,?_⟩
    refine Zbr (λz=>ZjY (kb ?_)) (λz=>?_)
    · omega
    refine ⟨_,rfl,_,rfl,ca,_,rfl,.inl (SqL.of (S5 _ _ qc)),_,_,rfl,rfl,_,rfl,?_⟩
    rw[Q1]
    refine Zbq (λz=>kb ?_) (λz=>?_)
    · have z:t<(ms.length:Int):=z
      omega
    · exact k H5
  case body =>
  intro t63
  refine ⟨_,λ_ _ h=>h,?_⟩
  have qc5:=S5 _ _ qc
  refine ⟨_,rfl,_,rfl,ca,ms,t,rfl,SqL.of qc5,⋯,λc1=>?_⟩
  refine ⟨_,rfl,_,rfl,κ,c1,rfl,λH6 n S6 n1 n7 n3=>?_⟩
  refine ⟨_,rfl,_,rfl,_,rfl,_,_,rfl,rfl,_,rfl,_,rfl,κ,ca,ms,t+1,n,n,rfl,S6 _ _ qc5,⋯,⋯,n7,n7,λH7 ta rs R S7 hT rx lR wd qR _ _=>?_⟩
  have S57:=S6.trans S7
  refine ⟨_,rfl,_,_,rfl,rfl,⟨∅,∅⟩,(by show 2<=sizeLine; decide),λl2 nl2=>?_⟩
  have Sl2:=Zag nl2 (.lst [.int 4,.int 3])
  have ql2:=Zaf (H:=H7) (a:=l2) (o:=.lst [.int 4,.int 3])
  generalize upd H7 l2 (.lst [.int 4,.int 3])=H8 at *
  obtain ⟨m2,em2,hm2⟩:=ZmI 4 3 (decide (V.int κ.P=V.int 0))
  obtain ⟨g,eg,lg⟩:∃g:Nat,(c1/8).fmod m2=(g:Int)/\g<=3:=by
    rcases hm2 with z | z
    · obtain ⟨g,e,l⟩:=Zng (a:=c1/8) (n:=4) ∅
      exact ⟨g,by rw[z]; exact e,⋯⟩
    · obtain ⟨g,e,l⟩:=Zng (a:=c1/8) (n:=3) ∅
      exact ⟨g,by rw[z]; exact e,⋯⟩
  refine ⟨_,rfl,rfl,.inr ⟨_,rfl,l2,_,_,_,rfl,rfl,SqL.of ql2,em2,_,_,rfl,rfl,(show m2≠0 by omega),?_⟩⟩
  show ZeA 8 (V.int ((c1/8).fmod m2)) _ H8 _
  rw[eg]
  have S58:=S57.trans Sl2
  have nn:(n:Int)*n<=49:=by
    have:n*n<=7*7:=Qm n7 n7
    have e:((n*n:Nat):Int)=(n:Int)*n:=We n n
    omega
  have nn0:0<=(n:Int)*n:=U9 ⋯ ⋯
  have ng:(n:Int)*g<=21:=by
    have:n*g<=7*3:=Qm n7 lg
    have e:((n*g:Nat):Int)=(n:Int)*g:=We n g
    omega
  have ng0:0<=(n:Int)*g:=U9 ⋯ ⋯
  refine ⟨_,rfl,_,_,rfl,rfl,_,rfl,_,rfl,_,_,rfl,rfl,Zba (Q0 (show ((n:Int)).natAbs<=7 by omega) ∅) (Q0 (show ((n:Int)).natAbs<=7 by omega) ∅),_,_,rfl,rfl,?_⟩
  refine ⟨_,rfl,_,rfl,_,rfl,_,rfl,_,rfl,κ,ca,ms,t+1+(n:Int)*n,g,n,rfl,S58 _ _ qc5,⋯,⋯,⋯,n7,λH9 D1 rs1 R1 S9 hD1 rx1 lR1 wd1 qR1 fr1 nd1=>?_⟩
  refine ⟨_,rfl,_,rfl,_,rfl,_,_,rfl,rfl,Zba (Q0 (show ((n:Int)).natAbs<=7 by omega) ∅) (Q0 (show ((g:Int)).natAbs<=7 by omega) ∅),_,_,rfl,rfl,?_⟩
  refine ZnT (ZnU (λσ Ha=>∃(D:Addr) (cas:List Addr) (cs:List (List κ.F)),σ=[some (.ref a),some (.int κ.P),some (.ref kk),some (.ref ca),some (.int (t+1+(n:Int)*n+(n:Int)*g)),some (.int c1),some (.int (n:Int)),some (.ref ta),some (.int (g:Int)),some (.ref D),z10,z11,z12]/\Same H8 Ha/\Zic κ Ha D cas cs/\cs.length<=7/\Wid n cs/\AllR (Q12 κ) cs) (λN' kj=>?_) ?_)
  · have z0:=kj _ _ ⟨D1,rs1,R1,rfl,S9,⟨hD1,rx1⟩,⋯,wd1,qR1⟩
    refine ⟨_,rfl,rfl,_,rfl,?_⟩
    refine Zbr (λz1=>?_) (λ_=>Zc7 z0)
    refine ⟨_,rfl,_,_,rfl,rfl,⟨∅,∅⟩,_,_,rfl,rfl,(by show (0:Int)<_; decide),rfl,_,rfl,?_⟩
    refine Zbr (λ_=>?_) (λ_=>z0)
    clear z0
    have g1:g=1:=by omega
    obtain ⟨b0,xs0,gb,hb0,al0⟩:=rx1.get (i:=0) ⋯
    have mf0:R1[0]'⋯∈R1:=Qf _
    refine ⟨(7:Int),rfl,∅,∅,?_⟩
    refine Zbu (lo:=0) (n:=7) (λq ys Hb=>Same H9 Hb/\∃as:List Addr,ys=as.map V.ref/\RowsX κ Hb as (List.replicate q (R1[0]'⋯))) ∅ ⟨Same.refl _,[],rfl,.nil⟩ ?_ ?_
    · rintro q ys Hb hq _ ⟨Sb,as,rfl,ra⟩
      refine ⟨_,rfl,D1,_,0,_,rfl,rfl,SqL.of (Sb _ _ hD1),Zbi (i:=0) gb,b0,xs0,rfl,.inl (SqL.of (Sb _ _ hb0)),λln nln=>?_⟩
      have Sn:=Zag nln (.lst xs0)
      refine ⟨Sb.trans Sn,as++[ln],by simp,?_⟩
      rw[List.replicate_succ']
      exact (ra.same Sn).snoc Zaf (al0.mono λ_ _ n=>n.same (Sb.trans Sn))
    rintro ys Hb _ ⟨Sb,as,rfl,ra⟩ p np
    have Sp:=Zag np (.lst (as.map V.ref))
    exact kj _ _ ⟨p,as,_,rfl,S9.trans (Sb.trans Sp),⟨Zaf,ra.same Sp⟩,by rw[Wt]; omega,(λf hf=>by rw[List.eq_of_mem_replicate hf]; exact wd1 _ mf0),λf hf=>by rw[List.eq_of_mem_replicate hf]; exact qR1 _ mf0⟩
  rintro σ Ha ⟨D,cas,cs,rfl,Sa,hcol,c7,wC,qC⟩
  have S7a:=Sl2.trans Sa
  have S4a:=S5.trans (S57.trans S7a)
  have tb:TabL κ Ha ta rs R n:=⟨S7a _ _ hT,rx.same S7a,wd,⋯,⋯,⋯⟩
  have lr:=rx.1
  refine ⟨_,rfl,_,rfl,_,rfl,_,rfl,κ,kk,ta,D,rs,cas,R,cs,n,rfl,kx4.same S4a,tb,lR,n7,n3,qR,hcol,c7,wC,qC,λHb Sb=>⟨_,rfl,Zc7 ?_⟩⟩
  have S4b:=S4a.trans Sb
  have tbb:=tb.same Sb
  refine ⟨_,rfl,_,_,rfl,rfl,_,rfl,⋯,⋯,?_⟩
  rw[show ((n:Int)-1).toNat=n-1 by omega]
  refine Zbu (lo:=0) (n:=n-1) (λq ys Hc=>Same Hb Hc/\AllG (NR κ Hc) ys (List.replicate q 0)) ⋯ ⟨Same.refl _,.nil⟩ ?_ ?_
  · rintro q ys Hc hq _ ⟨Sc',e3⟩
    refine ⟨_,rfl,κ,0,0,rfl,ZfA,λHd u Sd nu=>⟨Sc'.trans Sd,?_⟩⟩
    rw[List.replicate_succ']
    exact (e3.mono λ_ _ n=>n.same Sd).append (.one nu)
  rintro ys0 Hc _ ⟨Sc',e0⟩ no nno
  have Sno:=Zag nno (.lst ys0)
  have qno:=Zaf (H:=Hc) (a:=no) (o:=.lst ys0)
  generalize upd Hc no (.lst ys0)=Hd at *
  have Sbd:=Sc'.trans Sno
  refine ⟨_,rfl,_,rfl,(by show 1<=sizeLine; decide),λp1 np1=>?_⟩
  have Sp1:=Zag np1 (.lst [.ref no])
  have qp1:=Zaf (H:=Hd) (a:=p1) (o:=.lst [.ref no])
  generalize upd Hd p1 (.lst [.ref no])=He at *
  refine ⟨(by show 0<=sizeLine; decide),λp2 np2=>?_⟩
  have Sp2:=Zag np2 (.lst [])
  have qp2:=Zaf (H:=He) (a:=p2) (o:=.lst [])
  generalize upd He p2 (.lst [])=Hf at *
  refine ⟨(by show 3<=sizeLine; decide),λp3 np3=>?_⟩
  have Sp3:=Zag np3 (.lst [.ref D,.ref p1,.ref p2])
  have qp3:=Zaf (H:=Hf) (a:=p3) (o:=.lst [.ref D,.ref p1,.ref p2])
  generalize upd Hf p3 (.lst [.ref D,.ref p1,.ref p2])=Hg at *
  have Sdg:=Sp1.trans (Sp2.trans Sp3)
  have Sbg:=Sbd.trans Sdg
  have S4g:=S4b.trans Sbg
  have colg:Zic κ Hg D cas cs:=⟨(Sb.trans Sbg) _ _ hcol.1,hcol.2.same (Sb.trans Sbg)⟩
  have wr:∀(i:Nat) (x:V),([V.ref D,V.ref p1,V.ref p2]:List V)[i]?=some x->∃(b:Addr) (as:List Addr) (ds:List (List κ.F)),x=V.ref b/\Zic κ Hg b as ds/\ds.length<=100:=λi x hx=>by
    have mx:=Q8 hx
    simp only[Q9,W8,or_false] at mx
    rcases mx with rfl | rfl | rfl
    · exact ⟨D,cas,cs,rfl,colg,⋯⟩
    · exact ⟨p1,[no],[List.replicate (n-1) 0],rfl,⟨(Sp2.trans Sp3) _ _ qp1,RowsX.snoc .nil (Sdg _ _ qno) (e0.mono λ_ _ n=>n.same (Sno.trans Sdg))⟩,by show 1<=100; decide⟩
    · exact ⟨p2,[],[],rfl,⟨Sp3 _ _ qp2,.nil⟩,by show 0<=100; decide⟩
  refine ⟨p3,rfl,⟨_,SqL.of qp3⟩,?_⟩
  refine Za8 (K:=K) (a:=p3) (xs:=[V.ref D,.ref p1,.ref p2]) (λi σ Hh=>∃z11:Option V,σ=[some (.ref a),some (.int κ.P),some (.ref kk),some (.ref ca),some (.int (t+1+(n:Int)*n+(n:Int)*g)),some (.int c1),some (.int (n:Int)),some (.ref ta),some (.int (g:Int)),some (.ref D),some (.ref no),z11,z12]/\Same Hg Hh) ⟨_,rfl,Same.refl _⟩ ?_ ?_ ?_
  · rintro i σ Hh-⟨z11,rfl,Sh⟩
    exact SqL.of (Sh _ _ qp3)
  · rintro i x σ Hh hx ⟨z11,rfl,Sh⟩
    obtain ⟨b,as,ds,rfl,cb,l100⟩:=wr i x hx
    refine ⟨_,rfl,_,_,rfl,rfl,_,rfl,?_⟩
    refine Zbq (λz=>?_) (λ_=>Zc7 ⟨_,rfl,Sh⟩)
    have z:(1:Int)<(n:Int):=z
    have Sbh:=Sbg.trans Sh
    refine ⟨_,rfl,_,rfl,_,rfl,ta,_,rfl,SqL.of (Sbh _ _ tbb.l),λsl nsl=>?_⟩
    rw[show ZeT (rs.map V.ref) (some 1) none=(rs.drop 1).map V.ref by rw[List.map_drop]; exact Zkx _ 1]
    have Ss:=Zag nsl (.lst ((rs.drop 1).map V.ref))
    have qs:=Zaf (H:=Hh) (a:=sl) (o:=.lst ((rs.drop 1).map V.ref))
    generalize upd Hh sl (.lst ((rs.drop 1).map V.ref))=Hi at *
    have Sbi:=Sbh.trans Ss
    have lt:(R.drop 1).length=n-1:=by rw[Wj]; omega
    have tbT:TabL κ Hi sl (rs.drop 1) (R.drop 1) n:=⟨qs,(tbb.r.same Sbi).dropK 1,λf hf=>wd f (List.mem_of_mem_drop hf),⋯,⋯,⋯⟩
    exact ⟨_,rfl,κ,kk,sl,b,_,as,_,ds,n,rfl,kx4.same (S4b.trans Sbi),tbT,⟨(Sh.trans Ss) _ _ cb.1,cb.2.same (Sh.trans Ss)⟩,l100,.inl ⋯,λHj Sj=>⟨_,rfl,Zc7 ⟨_,rfl,Sh.trans (Ss.trans Sj)⟩⟩⟩
  rintro σ Hh ⟨z11',rfl,Sh⟩
  have Sbh:=Sbg.trans Sh
  have colh:Zic κ Hh D cas cs:=⟨Sh _ _ colg.1,colg.2.same Sh⟩
  have lcs:=colh.2.1
  obtain ⟨q0,eq0,lq0⟩:∃q0:Nat,(if (6:Int)<((cas.map V.ref).length:Int) then (6:Int) else ((cas.map V.ref).length:Int))=(q0:Int)/\q0<=6:=by
    rw[Q1]
    split
    · exact ⟨6,rfl,∅⟩
    · exact ⟨cas.length,rfl,⋯⟩
  obtain ⟨pl,epl,lpl⟩:=Zng (a:=c1/128) (n:=q0+1) ⋯
  refine ⟨_,rfl,_,_,rfl,rfl,⟨∅,∅⟩,_,rfl,D,_,rfl,.inl (SqL.of colh.1),_,_,rfl,_,_,rfl,rfl,_,_,rfl,rfl,?_,?_⟩
  · rw[eq0]; omega
  show ZeA 12 (V.int ((c1/128).fmod ((if (6:Int)<((cas.map V.ref).length:Int) then (6:Int) else ((cas.map V.ref).length:Int))+1))) _ Hh _
  rw[eq0,show ((q0:Int)+1)=((q0+1:Nat):Int) by omega,epl]
  have b2:c1/896%2=0\/c1/896%2=1:=by omega
  obtain ⟨lw,elw,nlw,l8⟩:∃lw:Nat,(n:Int)+1-2*(c1/896%2)=(lw:Int)/\lw≠n/\lw<=8:=by
    rcases b2 with e | e
    · exact ⟨n+1,⋯,⋯,⋯⟩
    · exact ⟨n-1,⋯,⋯,⋯⟩
  refine ⟨_,rfl,_,_,rfl,rfl,_,rfl,_,_,rfl,rfl,⟨∅,∅⟩,_,_,rfl,rfl,(by show (0:Int)<_; decide),_,_,rfl,rfl,Zba ∅ (Q0 (show (c1/896%2).natAbs<=1 by omega) ∅),_,_,rfl,rfl,_,rfl,⋯,⋯,?_⟩
  rw[show ((n:Int)+1-2*(c1/896%2)).toNat=lw by omega]
  refine Zbu (lo:=0) (n:=lw) (λq ys Hc=>Same Hh Hc/\AllG (NR κ Hc) ys (List.replicate q 0)) ⋯ ⟨Same.refl _,.nil⟩ ?_ ?_
  · rintro q ys Hc hq _ ⟨Sc',e3⟩
    refine ⟨_,rfl,κ,0,0,rfl,ZfA,λHd u Sd nu=>⟨Sc'.trans Sd,?_⟩⟩
    rw[List.replicate_succ']
    exact (e3.mono λ_ _ n=>n.same Sd).append (.one nu)
  rintro ys1 Hi _ ⟨Si,e1⟩ wo nwo
  have Swo:=Zag nwo (.lst ys1)
  have qwo:=Zaf (H:=Hi) (a:=wo) (o:=.lst ys1)
  generalize upd Hi wo (.lst ys1)=Hj at *
  have Shj:=Si.trans Swo
  obtain ⟨a1,b1,ec1⟩:=ZiW cas none (some (pl:Int))
  obtain ⟨a2,b2',ec2⟩:=ZiW cas (some (pl:Int)) (some 6)
  refine ⟨_,rfl,_,rfl,_,rfl,_,rfl,_,rfl,D,_,rfl,SqL.of (Shj _ _ colh.1),λs1 ns1=>?_⟩
  rw[ec1]
  have Ss1:=Zag ns1 (.lst (((cas.drop a1).take b1).map V.ref))
  have qs1:=Zaf (H:=Hj) (a:=s1) (o:=.lst (((cas.drop a1).take b1).map V.ref))
  generalize upd Hj s1 (.lst (((cas.drop a1).take b1).map V.ref))=Hk at *
  refine ⟨_,rfl,(by show 1<=sizeLine; decide),λs2 ns2=>?_⟩
  have Ss2:=Zag ns2 (.lst [.ref wo])
  have qs2:=Zaf (H:=Hk) (a:=s2) (o:=.lst [.ref wo])
  generalize upd Hk s2 (.lst [.ref wo])=Hl at *
  have ll1:((cas.drop a1).take b1).length<=7:=by rw[Qi,Wj]; omega
  have ll2:((cas.drop a2).take b2').length<=7:=by rw[Qi,Wj]; omega
  refine ⟨s1,s2,_,_,rfl,rfl,Ss2 _ _ qs1,qs2,?_,λs3 ns3=>?_⟩
  · rw[Q1]
    exact Q0 (show ((cas.drop a1).take b1).length+1<=1000 by omega) ∅
  rw[show ((cas.drop a1).take b1).map V.ref++[V.ref wo]=((cas.drop a1).take b1++[wo]).map V.ref by rw[Qn]; rfl]
  have Ss3:=Zag ns3 (.lst (((cas.drop a1).take b1++[wo]).map V.ref))
  have qs3:=Zaf (H:=Hl) (a:=s3) (o:=.lst (((cas.drop a1).take b1++[wo]).map V.ref))
  generalize upd Hl s3 (.lst (((cas.drop a1).take b1++[wo]).map V.ref))=Hm at *
  have Sjm:=Ss1.trans (Ss2.trans Ss3)
  refine ⟨_,rfl,_,rfl,_,rfl,_,rfl,D,_,rfl,SqL.of ((Shj.trans Sjm) _ _ colh.1),λs4 ns4=>?_⟩
  rw[ec2]
  have Ss4:=Zag ns4 (.lst (((cas.drop a2).take b2').map V.ref))
  have qs4:=Zaf (H:=Hm) (a:=s4) (o:=.lst (((cas.drop a2).take b2').map V.ref))
  generalize upd Hm s4 (.lst (((cas.drop a2).take b2').map V.ref))=Hn at *
  refine ⟨s3,s4,_,_,rfl,rfl,Ss4 _ _ qs3,qs4,?_,λs5 ns5=>?_⟩
  · rw[Q1,Q1,Qb]
    exact Q0 (show ((cas.drop a1).take b1).length+1+((cas.drop a2).take b2').length<=1000 by omega) ∅
  rw[<-Qn]
  have Ss5:=Zag ns5 (.lst (((cas.drop a1).take b1++[wo]++(cas.drop a2).take b2').map V.ref))
  have qs5:=Zaf (H:=Hn) (a:=s5) (o:=.lst (((cas.drop a1).take b1++[wo]++(cas.drop a2).take b2').map V.ref))
  generalize upd Hn s5 (.lst (((cas.drop a1).take b1++[wo]++(cas.drop a2).take b2').map V.ref))=Ho at *
  have Sjo:=Sjm.trans (Ss4.trans Ss5)
  have Sho:=Shj.trans Sjo
  have S4o:=S4b.trans (Sbh.trans Sho)
  have tbo:=tbb.same (Sbh.trans Sho)
  have co:=colh.2.same Sho
  have rows5:RowsX κ Ho ((cas.drop a1).take b1++[wo]++(cas.drop a2).take b2') ((cs.drop a1).take b1++[List.replicate lw 0]++(cs.drop a2).take b2'):=(((co.dropK a1).take b1).snoc (Sjo _ _ qwo) (e1.mono λ_ _ n=>n.same (Swo.trans Sjo))).cat ((co.dropK a2).take b2')
  refine ⟨κ,kk,ta,s5,rs,_,R,_,n,rfl,kx4.same S4o,tbo,⟨qs5,rows5⟩,?_,.inr ⟨List.replicate lw 0,Ui _ (W1 _ (Q5.mpr rfl)),by rw[Wt,lR]; exact nlw⟩,λHp Sp=>⟨_,rfl,Zc7 ?_⟩⟩
  · rw[<-rows5.1,Qb,Qb]
    show ((cas.drop a1).take b1).length+1+((cas.drop a2).take b2').length<=100
    omega
  exact ⟨_,(by show (200-(t+1+(n:Int)*n+(n:Int)*g)).toNat<(200-t).toNat; omega),t+1+(n:Int)*n+(n:Int)*g,_,_,_,_,_,_,_,_,rfl,rfl,S4o.trans Sp,⋯⟩
end
end My
namespace My
open PySem L2 PyProof.Rows
section
variable{P:Program}{w:World}{K:PySem.W.Frag}{mg:Str->Option Value}{base:Heap}{CF CR cF cN:Addr}
theorem Zlf(kd:Kd K mg CF CR)(hF:HasMX P w K mg base CF "number" 3 ["self", "top", "bottom"] [] ZbW) (hR:HasMX P w K mg base CR "number" 3 ["self", "top", "bottom"] [] (Zbz CR cN)):ZiP P w K mg base CF CR:=by
  intro κ H s hk
  cases κ with
  | q =>
    obtain ⟨dx,h⟩:=hk
    refine ⟨CF,dx,[],_,_,_,h,kd.clF,hF,rfl,rfl,λH' b y Q E S hy b0 bl _ k=>⟨s,1,b,rfl,b0,bl,λr x z nr fc e=>?_⟩⟩
    have e1:Rat.num y=b:=hy.1
    have e2:Rat.den y=1:=hy.2
    obtain ⟨i1,i2⟩:=Zky (q:=y) fc (by rw[e1,e2,e]; rfl)
    refine k _ _ (Zag nr _) ⟨r,rfl,?_⟩
    show upd H' r _ r=some (.tup [.int (Fd.inv y:Rat).num,.int ((Fd.inv y:Rat).den:Int)])
    rw[i1,i2]; exact Zaf
  | r p hp =>
    obtain ⟨dx,h⟩:=hk
    have h2:=hp.pr.1
    refine ⟨CR,dx,_,_,_,_,h,kd.clR,hR,Zdg p ∅,rfl,λH' b y Q E S hy b0 bl b1 k=>?_⟩
    have b1:=b1 (λz=>nomatch z)
    subst b1
    refine ⟨s,p,1,1,rfl,⟨dx,S _ _ h⟩,hp.pr,by have:=hp.lt; omega,∅,∅,λz=>?_,λ_ H'' r S' r0 r1 rd=>?_⟩
    · have:=Int.le_of_dvd ∅ z
      omega
    · refine k _ H'' S' ?_
      have ey:y=K1 (.r p hp):=hy.uniq ZeD
      subst ey
      have ei:(KX.r p hp).invF (K1 (.r p hp))=K1 (.r p hp):=by
        have:(KX.r p hp).mulF (K1 (.r p hp)) (K1 (.r p hp))=K1 (.r p hp):=ZiO
        exact (Zhi this).symm
      show V.int r=V.int ((Fin.val ((KX.r p hp).invF (K1 (.r p hp))):Nat):Int)
      rw[ei,Zgk]
      congr 1
      rw[U8] at rd
      have e3:r%p=1%p:=Int.emod_eq_emod_iff_emod_sub_eq_zero.mpr (Wz rd)
      rw[Ub r0 r1,Ub ∅ ⋯] at e3
      exact e3
end
end My
namespace PySem.W.Fast
def tw10878336301737672736:=0
def tw12010663245679431744:=0
def tw3232966724963898528:=0
def tw14321567952705331424:=0
def tw2484508522836383968:=0
def tw8741096594381112608:=0
def tw5274001365119664480:=0
def tw4406981171073844640:=0
def tw12272251078093948320:=0
def tw7655137327874562464:=0
def tw4857612011556670912:=0
def tw13215235596040356288:=0
def tw5333694158855241152:=0
def tw13375874717675477472:=0
def tw4545116278861300224:=0
def tw2186403571991621216:=0
def tw13360429381482828384:=0
def tw16153008816387521120:=0
def tw3605984963239542400:=0
def tw13700742685092513472:=0
def tw7031358052872190688:=0
def tw9622181676462966496:=0
def tw17802864158083600256:=0
def tw12036651605513860992:=0
def tw17801112171136997280:=0
def tw12293751634623126464:=0
def tw14960633233422572545:=0
def tw7606004494015040673:=0
def tw15956493391528297665:=0
def tw1285670218578593025:=0
def tw4310779068894125377:=0
def tw9225279004880784737:=0
def tw16867589782764662145:=0
def tw6850962785286141345:=0
def tw3915679652523651553:=0
def tw13310618684448115297:=0
def tw3091400439989203585:=0
def tw7192044102917989057:=0
def tw5705294463318893249:=0
def tw17150416407131849569:=0
def tw15203180752627530625:=0
def tw15913202543476139905:=0
def tw3190352694622478241:=0
def tw3620352774907432034:=0
def tw13529963086113706082:=0
def tw12345498937162433762:=0
def tw4023304253838553314:=0
def tw5065555720444357922:=0
def tw4605625560603129154:=0
def tw467940402661213506:=0
def tw14736890658329267554:=0
def tw16429365678098165090:=0
def tw14584619057027327426:=0
def tw5191015220227439074:=0
def tw16211949433478122050:=0
def tw2009930306963365442:=0
def tw4724664278660714210:=0
def tw8336522637098441474:=0
def tw4668623623514185506:=0
def tw14944356939228442466:=0
def tw13652584093002299234:=0
def tw14375862040315644834:=0
def tw10836806868500206530:=0
def tw7939293417765891042:=0
def tw17321200416314426371:=0
def tw10138951206568996931:=0
def tw6556719785617909827:=0
def tw16181381121757920355:=0
def tw11232968348998547587:=0
def tw3743318608946738403:=0
def tw5001519106248840451:=0
def tw2451339131045159171:=0
def tw16952260949246428419:=0
def tw5089358269416561923:=0
def tw15244130962788578659:=0
def tw2666092963030019491:=0
def tw10535803000994084291:=0
def tw944672117629741539:=0
def tw1462592299155807715:=0
def tw7791673009611931363:=0
def tw1941362807044833027:=0
def tw9749033786219994883:=0
def tw7956531268497821507:=0
def tw2072910419124703075:=0
def tw17570780078278590339:=0
def tw7753367357184721795:=0
def tw14207983378306528131:=0
def tw2326930280840862627:=0
def tw14549959415215732643:=0
def tw9216091216844504003:=0
def tw8155454455158208451:=0
def tw12824728731938796580:=0
def tw10343692087505674372:=0
def tw13698532561556881732:=0
def tw3216873504947228068:=0
def tw17164572618453641668:=0
def tw2768631395328449028:=0
def tw6027331338231455236:=0
def tw3746434284094485028:=0
def tw17701705187798433348:=0
def tw6568738264358217316:=0
def tw17482614952519908996:=0
def tw12415200908562427556:=0
def tw660736559469485796:=0
def tw9701077804369310468:=0
def tw15903277471048078116:=0
def tw11421566002781969188:=0
def tw5131622306271792964:=0
def tw13628414755764641604:=0
def tw238716451130823492:=0
def tw1895885998710099812:=0
def tw17956692077030440868:=0
def tw15411382515633004484:=0
def tw8873453833714755524:=0
def tw4939443114988428325:=0
def tw4126862877826290821:=0
def tw14268529372251855013:=0
def tw2373809961765151941:=0
def tw10266811287206625573:=0
def tw17512728268235949349:=0
def tw798913691392031045:=0
def tw9898818540988095813:=0
def tw918630910545953189:=0
def tw6900480738578190757:=0
def tw3050253342709151141:=0
def tw9877039364447624741:=0
def tw11846418866109478501:=0
def tw3973753065175377541:=0
def tw7927987158885430981:=0
def tw4038242286981607141:=0
def tw8122375561721987813:=0
def tw16168654472880633605:=0
def tw4519357268591940389:=0
def tw17687985299695057701:=0
def tw10751527628491605893:=0
def tw16749107940703037381:=0
def tw12534660517886846949:=0
def tw13987138606107797638:=0
def tw48758159583467654:=0
def tw6765359199476458726:=0
def tw6650013447918120166:=0
def tw12311244896678550790:=0
def tw15984066438933951782:=0
def tw8425601307863370086:=0
def tw14253178508276076902:=0
def tw1854918921069835846:=0
def tw2051954219859579494:=0
def tw5785599554287809190:=0
def tw7595250263441259206:=0
def tw16744125599985551046:=0
def tw13794196402758227686:=0
def tw138723517031659238:=0
def tw3359622754746383078:=0
def tw14580656797283513062:=0
def tw18299200382723498822:=0
def tw10043167134976939878:=0
def tw4677560611304627078:=0
def tw9485078255285225350:=0
def tw1143333828407036902:=0
def tw6817866541752672230:=0
def tw15130581263367223303:=0
def tw2535998174943852551:=0
def tw7202567187223578695:=0
def tw8459563230269986887:=0
def tw13314777122050248903:=0
def tw11503722674939515079:=0
def tw5661019274164525351:=0
def tw9445312325433717095:=0
def tw16549629968452862311:=0
def tw1815673792689074599:=0
def tw16714234327858965959:=0
def tw12243752361180392903:=0
def tw12288679774082902503:=0
def tw11345821519232623175:=0
def tw4473129643557613191:=0
def tw12361970563124030119:=0
def tw17292136856089949895:=0
def tw14623246738651761415:=0
def tw3117492048061625095:=0
def tw138945683025333031:=0
def tw14426436562631208775:=0
def tw17092161426668844871:=0
def tw102002384822408039:=0
def tw17061677998502359943:=0
def tw11427499769112931239:=0
def tw9876751261444530151:=0
def tw13215489569617453031:=0
def tw6012363179351029735:=0
def tw4755192109207618600:=0
def tw18057496379360622632:=0
def tw10121256822481950824:=0
def tw377620616752966792:=0
def tw5762399713844809928:=0
def tw10658448757716823272:=0
def tw9564317527470726376:=0
def tw14627774832572539144:=0
def tw9859886532138244392:=0
def tw9389394478418620776:=0
def tw13494342919407651272:=0
def tw17952420974938982888:=0
def tw7918953889262604776:=0
def tw428943084747398632:=0
def tw10432063984827089448:=0
def tw9512214974435458600:=0
def tw5826957069610955336:=0
def tw3655963915061059176:=0
def tw14736779968548450088:=0
def tw6530874164385350472:=0
def tw2016134387325162312:=0
def tw10706996712316239688:=0
def tw5624063195607754664:=0
def tw2308661624752689128:=0
def tw16283351310164980712:=0
def tw5387182989308796937:=0
def tw5543431614341548105:=0
def tw15176750733547351145:=0
def tw7499444550099905737:=0
def tw10652605781081116873:=0
def tw5115274887906141449:=0
def tw4113060052545417545:=0
def tw16133437291354569065:=0
def tw5919178255816783209:=0
def tw16145759504088119689:=0
def tw7096888705559120265:=0
def tw7117798907675484617:=0
def tw15433019975127569897:=0
def tw14583125442235528713:=0
def tw7681927615469799049:=0
def tw12540603402872553193:=0
def tw10736386651455712009:=0
def tw10267332293105516297:=0
def tw13338364163340257033:=0
def tw1000729042988403529:=0
def tw8525781578006840201:=0
def tw1512343422868897705:=0
def tw10170263060073148361:=0
def tw12030234389939217353:=0
def tw4548615393682937898:=0
def tw13222928186847652938:=0
def tw16071053457867735146:=0
def tw170061213299165290:=0
def tw11833866761719895210:=0
def tw4046914470659047626:=0
def tw3183246640441253066:=0
def tw9224882694250971402:=0
def tw6852019253012163850:=0
def tw4301844493339545962:=0
def tw17087069549995235722:=0
def tw13784205264845818250:=0
def tw4078643394879186314:=0
def tw17949492353936915850:=0
def tw7157198065992196522:=0
def tw8967161798108087754:=0
def tw12725083979832609258:=0
def tw5188515953388250634:=0
def tw9639615451461181066:=0
def tw16661418856279304938:=0
def tw270650618176214762:=0
def tw6695758657294483210:=0
def tw6374848971986958122:=0
def tw13467789358134459178:=0
def tw14167309589207022378:=0
def tw2770525989238656874:=0
def tw11493120997215104970:=0
def tw1063796821253394410:=0
def tw15520800203729516522:=0
def tw15519277032727886826:=0
def tw12560109790283000810:=0
def tw7651831403042389099:=0
def tw7892820769824036971:=0
def tw13444871757587020011:=0
def tw5022419188837663019:=0
def tw12755214323170185547:=0
def tw4138923954623399307:=0
def tw990592358188975531:=0
def tw8276050549058878923:=0
def tw14130432538184172267:=0
def tw2223645229776066315:=0
def tw10196984283788072811:=0
def tw9795863968448670571:=0
def tw14353418301221285803:=0
def tw946836741541786571:=0
def tw8791226511302211531:=0
def tw2744332583577982955:=0
def tw12198462456188655595:=0
def tw14358250410778665004:=0
def tw14917001658973257996:=0
def tw11871370594038598924:=0
def tw8615096063852885292:=0
def tw12173698593069050156:=0
def tw3209928893775801836:=0
def tw1378931838826002988:=0
def tw17608369622575827532:=0
def tw8694330695164927692:=0
def tw11797471436421535468:=0
def tw15285074284936939244:=0
def tw14702421465666091756:=0
def tw365303836632151852:=0
def tw13057556125484337004:=0
def tw11674191733940820876:=0
def tw18334743996657207180:=0
def tw5302125955472601004:=0
def tw13774525576735543341:=0
def tw14807930888176137325:=0
def tw7020805456500946157:=0
def tw8128906895486750989:=0
def tw11755309340104993037:=0
def tw5775966147207740685:=0
def tw4372674429003704621:=0
def tw15823430182183582029:=0
def tw6475861426018988429:=0
def tw14860924868976800237:=0
def tw6957014243192276493:=0
def tw14131264421380721357:=0
def tw12426683228414283501:=0
def tw16111950535268889453:=0
def tw13571768469034839917:=0
def tw9683353661855753069:=0
def tw1519699869192405901:=0
def tw7354790332903419789:=0
def tw3281000241129858062:=0
def tw9590731417689142350:=0
def tw13431559767817043022:=0
def tw12431162845274275982:=0
def tw9837859945829105870:=0
def tw15118498555963176174:=0
def tw10138352251043326254:=0
def tw14103277602825989422:=0
def tw15278527226570812750:=0
def tw7291012042801134926:=0
def tw11641973372933171598:=0
def tw5706865018782171566:=0
def tw13967293587814041006:=0
def tw4013112473053206990:=0
def tw17127392920357446190:=0
def tw4397717387259850286:=0
def tw14921027929038262862:=0
def tw13166648799267656270:=0
def tw6963363674103886414:=0
def tw2234113861780747854:=0
def tw5132673119461173998:=0
def tw713598485244472078:=0
def tw154633315832458030:=0
def tw16320403364427742030:=0
def tw17490305212116246382:=0
def tw13438357316798365582:=0
def tw9114603411453309838:=0
def tw13093648783707308974:=0
def tw11370928555592210447:=0
def tw9655136245154159727:=0
def tw902511325474308207:=0
def tw14201059015069779151:=0
def tw7946706315358925007:=0
def tw1228604270663377135:=0
def tw1892442317040864495:=0
def tw13488878951585474799:=0
def tw16579960125577655535:=0
def tw7600676390649961743:=0
def tw18293875956279324943:=0
def tw18182619963520383247:=0
def tw15432739511348033807:=0
def tw245615852915649871:=0
def tw16889205490287162703:=0
def tw4016823669868517743:=0
def tw235571280708519279:=0
def tw9491906166352233839:=0
def tw10754316615727460751:=0
def tw11422551745753702895:=0
def tw8629488217703217647:=0
def tw8900997925929233903:=0
def tw15173967669351015951:=0
def tw14810376575348087375:=0
def tw9568836151656102479:=0
def tw572503620399843951:=0
def tw7560062648010056367:=0
def tw7966964534100968143:=0
def tw15715248696692564751:=0
def tw18411621389413843759:=0
def tw13430171260109074223:=0
def tw12950972085189665583:=0
def tw257935616060225327:=0
def tw18410024468556369775:=0
def tw17978260461678962607:=0
def tw14586555191593634799:=0
def tw5908133676381874192:=0
def tw1145796768037245968:=0
def tw7940593194275956848:=0
def tw17497902748536642768:=0
def tw2571255248987843792:=0
def tw2639440101491757328:=0
def tw15320518606421619056:=0
def tw7264220353031387664:=0
def tw15766762241476025872:=0
def tw14583285885165298224:=0
def tw2007539471266409008:=0
def tw7239060598886553200:=0
def tw6953210212790720240:=0
def tw1847039239363159792:=0
def tw3942120354819081200:=0
def tw8525082599476730929:=0
def tw9170986419758684209:=0
def tw18271678672417737809:=0
def tw6900107386046403921:=0
def tw15883397447177147761:=0
def tw16014280468129441137:=0
def tw709944251715214737:=0
def tw13960575874827035089:=0
def tw11045017305093171665:=0
def tw578943382999213553:=0
def tw4505249845673274865:=0
def tw12442872305562272273:=0
def tw4193155159283826225:=0
def tw16966910489424544305:=0
def tw17972825616418228049:=0
def tw1993611913049968497:=0
def tw12798827489823105905:=0
def tw12419401823373248401:=0
def tw13485486462138932145:=0
def tw13024617783123578801:=0
def tw4245283418282310641:=0
def tw7047500527089902577:=0
def tw5692200481834262578:=0
def tw406717735240389714:=0
def tw16949962369576452306:=0
def tw14124694901593115890:=0
def tw16045010537559576850:=0
def tw4354173419175585074:=0
def tw13557366399588150642:=0
def tw6556711639548798450:=0
def tw12898760970360918578:=0
def tw7927422625508267666:=0
def tw11958856774931522194:=0
def tw402294058818887314:=0
def tw9752008150679328466:=0
def tw4982162687201917682:=0
def tw1720142856228693810:=0
def tw2370241099827556242:=0
def tw9929189557101770642:=0
def tw14175866369603431378:=0
def tw2488380842087696370:=0
def tw2590435166892647410:=0
def tw9936776244715447347:=0
def tw2785155313357634643:=0
def tw5656627651913983091:=0
def tw15300491424620890323:=0
def tw12305204251150223603:=0
def tw13453063517351755059:=0
def tw15542343378463528435:=0
def tw13177621385714081267:=0
def tw16324361184089515635:=0
def tw17200925334415164019:=0
def tw563518586316621459:=0
def tw16658413845322564435:=0
def tw10005465221440202675:=0
def tw8106777270365175795:=0
def tw16900319688787127283:=0
def tw15059678995616562196:=0
def tw17094113991007501332:=0
def tw2253438625309248692:=0
def tw4661159454705992916:=0
def tw12840612076096086260:=0
def tw8505757163615611156:=0
def tw4428463243866920308:=0
def tw5576364243047134644:=0
def tw15550049666896536020:=0
def tw1951423112216032756:=0
def tw192935187916679668:=0
def tw12963039290796505588:=0
def tw2389760188525378068:=0
def tw15031758890585965108:=0
def tw8414262346577178228:=0
def tw956632412090321524:=0
def tw14486230589854795412:=0
def tw12039233738282554036:=0
def tw10415769219105229524:=0
def tw4776735749771032276:=0
def tw11402837344226286292:=0
def tw18130946080542821108:=0
def tw17266371383837858548:=0
def tw18105843427832331092:=0
def tw16716318036556278644:=0
def tw14981021240295706548:=0
def tw18260713822285094868:=0
def tw15119637947279786996:=0
def tw12534442812622407861:=0
def tw12606718250201821461:=0
def tw1151278473019349333:=0
def tw5916418749457488245:=0
def tw1125372117065205141:=0
def tw8287954005879506389:=0
def tw12351796100844427765:=0
def tw10364392861811138069:=0
def tw13882779472579162677:=0
def tw12634925836220814933:=0
def tw4054927802191595093:=0
def tw17851072337456560789:=0
def tw12637465259184046773:=0
def tw13928960772486615733:=0
def tw9730470805554556789:=0
def tw11854929842828597205:=0
def tw8303816652331420726:=0
def tw9861532213170848822:=0
def tw679359139875051670:=0
def tw7530454562912081110:=0
def tw4921440207613129942:=0
def tw14895589996159439158:=0
def tw8758565846799786326:=0
def tw15200652836736533910:=0
def tw9734743592297831862:=0
def tw3629564538802263542:=0
def tw4652453971174923798:=0
def tw13247451529104885334:=0
def tw6671260947574059606:=0
def tw5946681516138276502:=0
def tw6698570063125375670:=0
def tw3823924221006949078:=0
def tw14901965826719702742:=0
def tw14976404562480578294:=0
def tw4252987219206693622:=0
def tw6700038985721749270:=0
def tw18177259758495949622:=0
def tw5200235849272003446:=0
def tw2367649243184178070:=0
def tw18330989914532937654:=0
def tw14814630863539773398:=0
def tw4488925603069670455:=0
def tw16965478904447455351:=0
def tw15185127348503953591:=0
def tw2945356278898290903:=0
def tw9507812301853299959:=0
def tw10594521775756462327:=0
def tw3121359990132302103:=0
def tw5566761250114729239:=0
def tw8795026597213582647:=0
def tw8189284776818499927:=0
def tw881875909154244055:=0
def tw57499769391527383:=0
def tw16318471716322578967:=0
def tw3327590650299930167:=0
def tw18035952742206758519:=0
def tw9196281491437380247:=0
def tw15695636293647302327:=0
def tw15074789558127866551:=0
def tw5119534006589283031:=0
def tw962058114038429495:=0
def tw9887315782472759127:=0
def tw6472668439122460535:=0
def tw11765494039412749239:=0
def tw14266875903722466263:=0
def tw86498406860735479:=0
def tw4232442670451299448:=0
def tw842472386925631608:=0
def tw2811579087055528056:=0
def tw3367896968065417368:=0
def tw14033820030912282776:=0
def tw4792804250537974936:=0
def tw13512254051214342328:=0
def tw11722541345686571256:=0
def tw16801278579500457272:=0
def tw12223246209031136568:=0
def tw6845039928016125304:=0
def tw1965992311979864504:=0
def tw3170957986852353528:=0
def tw2275241614486583800:=0
def tw743959740770019832:=0
def tw6927901704520307320:=0
def tw14110370829233891960:=0
def tw6245276513456349848:=0
def tw12785238914491311768:=0
def tw10374450208551212728:=0
def tw10962103764459032280:=0
def tw13778431398494200536:=0
def tw6962217884231838424:=0
def tw16393191977886522104:=0
def tw79536782901978872:=0
def tw4785439403198536440:=0
def tw15898120550982656792:=0
def tw17405610272496293784:=0
def tw7484754352425379768:=0
def tw1721735373776481337:=0
def tw11592866328688734329:=0
def tw4542991709761442937:=0
def tw9652446154229595289:=0
def tw2923674107189869721:=0
def tw8251178319945842873:=0
def tw2811713983984314617:=0
def tw3264475881950484761:=0
def tw6138008093595830553:=0
def tw7320440496268685657:=0
def tw801919767686542681:=0
def tw2461649077798541689:=0
def tw17134809181163487641:=0
def tw13652608995820199321:=0
def tw17636469539584162265:=0
def tw7812085530457717241:=0
def tw11794265090951666201:=0
def tw3203010500337082937:=0
def tw1216736642581942969:=0
def tw2482622894575091513:=0
def tw16868127660418356121:=0
def tw15154079370327750553:=0
def tw8903623978098599897:=0
def tw6732811614579619801:=0
def tw6329080501628292282:=0
def tw16251816334333933754:=0
def tw4383318265919703258:=0
def tw10468927852522288378:=0
def tw4463083956393546010:=0
def tw17633587211459856698:=0
def tw5955664204167911738:=0
def tw523607448001387834:=0
def tw4503902918253885754:=0
def tw18337365696404027738:=0
def tw14527426448942192986:=0
def tw3820507953632315770:=0
def tw1721303072883885434:=0
def tw15719718760464657818:=0
def tw7106497207933189594:=0
def tw14177080166323326490:=0
def tw5771784505015754394:=0
def tw17800246456622751418:=0
def tw14808288585957681850:=0
def tw15588962899766342362:=0
def tw16495671298743208698:=0
def tw8868899668371993338:=0
def tw17850360918054895450:=0
def tw10254362180130761562:=0
def tw9765133523982245754:=0
def tw8762621585977094010:=0
def tw14586079584428819386:=0
def tw12189985823384517594:=0
def tw14392026482174187482:=0
def tw7705665473679285210:=0
def tw15603577867710527482:=0
def tw2361629279628373083:=0
def tw8209615897025882267:=0
def tw1934114563384826011:=0
def tw6764395558424476827:=0
def tw12754616925224023227:=0
def tw16550601156615980283:=0
def tw5705878451664115003:=0
def tw17845207985939623259:=0
def tw12446071362762401115:=0
def tw18299415897669966203:=0
def tw6018240905477417371:=0
def tw2830816184482299323:=0
def tw15419430732928632283:=0
def tw4508512366454631899:=0
def tw14848453420537266715:=0
def tw15102228503793829435:=0
def tw7792320200296138299:=0
def tw8375579863333696091:=0
def tw13128277523647431451:=0
def tw12564631811836611355:=0
def tw9188260835117130523:=0
def tw10844035575940743035:=0
def tw4624788283832785883:=0
def tw9868174371202601979:=0
def tw17841257672497774652:=0
def tw12657374213590931548:=0
def tw16069191241620178044:=0
def tw5825806632387013788:=0
def tw3527331709221144828:=0
def tw8891541545909680444:=0
def tw10303069078789373276:=0
def tw4543526847468276124:=0
def tw3483362030512718236:=0
def tw14566847713773386140:=0
def tw13082850319327096252:=0
def tw955153224571111100:=0
def tw16929673207380376284:=0
def tw2129171786713703196:=0
def tw1445680067477263164:=0
def tw7117892245300426556:=0
def tw12799389350208910172:=0
def tw4037430976129244028:=0
def tw14133522531852167036:=0
def tw11648228263099618172:=0
def tw398627261027631004:=0
def tw16809641696536318940:=0
def tw15878475468916119516:=0
def tw716280232796825596:=0
def tw5575658942403562525:=0
def tw6102971935462510653:=0
def tw13723906855784074333:=0
def tw18102645794909863037:=0
def tw10133905005735538845:=0
def tw7797702533726303421:=0
def tw17086941552644872381:=0
def tw18134054427097570525:=0
def tw1196541702171872477:=0
def tw2521779866509757757:=0
def tw15831254475610433885:=0
def tw8830882574238245245:=0
def tw8552228477306673533:=0
def tw10086068022129903037:=0
def tw16383684092541348381:=0
def tw10897808590628253277:=0
def tw17675793017641007741:=0
def tw2087796760392955549:=0
def tw11346502602400786109:=0
def tw11679664975059883773:=0
def tw531202371728218877:=0
def tw10449749717451805469:=0
def tw4014717622056504125:=0
def tw14942736504256539549:=0
def tw5100726968341745629:=0
def tw15308480877236408285:=0
def tw17870530284085288957:=0
def tw861012607813982238:=0
def tw15887309983821457470:=0
def tw9995293149608499294:=0
def tw10314097896992112734:=0
def tw6874872187877167358:=0
def tw10328771425905360158:=0
def tw15720653225781463486:=0
def tw1992842349865233886:=0
def tw11754778953576151582:=0
def tw18282466086845910590:=0
def tw16030569784330569342:=0
def tw16975553291126130334:=0
def tw13887461229700696798:=0
def tw6202282118112509662:=0
def tw11615021612957829886:=0
def tw9070942918639141630:=0
def tw5695722000140890942:=0
def tw8071356701736271710:=0
def tw6987031111152373630:=0
def tw16162147226841400222:=0
def tw8911072840723762078:=0
def tw3799720738480431070:=0
def tw6004539664200707070:=0
def tw2926280263744205855:=0
def tw10895852635124159551:=0
def tw17597511646562068703:=0
def tw2936053621013277951:=0
def tw12811067606391536895:=0
def tw17019226612360452511:=0
def tw2141255282243412383:=0
def tw18188452991715721695:=0
def tw15740507724994252287:=0
def tw17331554667946078847:=0
def tw3596756809161262719:=0
def tw2505888295064912543:=0
def tw3164912505743160031:=0
def tw8903335047987151583:=0
def tw13506239590325621567:=0
def tw17978217902534204223:=0
def tw3753411113586927519:=0
def tw7458171916981904351:=0
def tw315660632469115871:=0
def tw7954572379477728255:=0
def tw9960506767338036223:=0
def tw10093317868400435199:=0
def tw1517915489769878370:=0
end PySem.W.Fast
namespace My
open PySem L2 PyProof.Rows
structure Defs (K:PySem.W.Frag) (mg:Str->Option Value) (CF CR CE cK cN cF cT cI cX cM cR:Addr):Prop where
  T:Nm mg
  kd:Kd K mg CF CR
  R:Rf K mg CE cK cN cF cT cI cX cM cR
  Z:Rz K mg "NoFit" CE cF [cK,cN,cT,cI,cX,cM,cR]
  xn:ExcC K mg "NoNumber" cN
  nz:mg "zip" = none
  nsu:mg "sum" = none
  nmx:mg "max" = none
  nmn:mg "min" = none
  nrv:mg "reversed" = none
  d1:Here K mg "divisor" ZeZ
  d2:Here K mg "is_whole" ZdX
  d3:Here K mg "is_prime" ZdY
  d4:Here K mg "shares" Zf4
  d5:Here K mg "less_times" ZcO
  c1:Here K mg "scaled_row" ZcR
  c2:Here K mg "column_at" Zdn
  c3:Here K mg "sums_with" Zdo
  c4:Here K mg "is_square" Zdm
  c5:Here K mg "need_square" Zct
  c6:Here K mg "scaled" Zf5
  c7:Here K mg "evenly_freed" Zb9
  c8:Here K mg "product_number" ZbI
  c9:Here K mg "corner_numbers" ZbJ
  c10:Here K mg "falling_numbers" Zby
  c11:Here K mg "great" ZhI
  c12:Here K mg "plus_row" ZdZ
  c13:Here K mg "make_turn" Zdp
  c14:Here K mg "is_idle" Ze1
  c15:Here K mg "take" Zki
  c16:Here K mg "take_bottoms" Zca
  c17:Here K mg "first_filled" Zcb
  c18:Here K mg "empty_column" Zcc
  c19:Here K mg "emptied" Ze2
  c20:Here K mg "steps" ZhJ
  c21:Here K mg "image" ZhH
  c22:Here K mg "need_column" Zcu
  c23:Here K mg "climbed" Ze0
  c24:Here K mg "filled_rows" Zcv
  c25:Here K mg "room" Zkj
  l1:Here K mg "_law_whole" Ze3
  l2:Here K mg "_law_divisor" Zdq
  l3:Here K mg "_law_is_prime" ZcS
  l4:Here K mg "_law_prime" Ze4
  l5:Here K mg "_law_kind" Zf6
  l6:Here K mg "_law_fraction" ZcU
  l7:Here K mg "_law_prime_by" ZcT
  l8:Here K mg "_law_make" Zf7
  l9:Here K mg "_law_is_number" Zcw
  l10:Here K mg "_law_drawn" Ze7
  l11:Here K mg "_law_plus" Zf8
  l12:Here K mg "_law_times" Ze5
  l13:Here K mg "_law_minus" Ze6
  l14:Here K mg "_law_image" Ze8
  l15:Here K mg "_law_ranked" Zd1
  l16:Here K mg "_law_leads" Ze9
  l17:Here K mg "_law_within" Zd2
  l18:Here K mg "_law_size" Zf9
  l19:Here K mg "_law_right" Zfa
  l27:Here K mg "_law_is_row" Zd0
  l28:Here K mg "_law_cell_at" Zdr
  l29:Here K mg "_law_rows_by" Zds
  l30:Here K mg "_law_refused" Zdt
  m1:HereM K CF "plus" "Fractions.plus" ZbF
  m2:HereM K CF "minus" "Fractions.minus" Zbv
  m3:HereM K CF "back" "Fractions.back" ZbG
  m4:HereM K CF "times" "Fractions.times" Zbw
  m5:HereM K CF "is_nought" "Fractions.is_nought" Za5
  m6:HereM K CF "common_bottom" "Fractions.common_bottom" ZaN
  m7:HereM K CF "sum_of_products" "Fractions.sum_of_products" ZaK
  r1:HereM K CR "plus" "Rests.plus" ZcP
  r2:HereM K CR "minus" "Rests.minus" Zcr
  r3:HereM K CR "back" "Rests.back" ZcQ
  r4:HereM K CR "times" "Rests.times" Zcs
  r5:HereM K CR "is_nought" "Rests.is_nought" Zbx
  r6:HereM K CR "common_bottom" "Kind.common_bottom" Zbb
  r7:HereM K CR "sum_of_products" "Rests.sum_of_products" ZaT
  n1:∃tk,HereD K CF "number" "Fractions.number" ZaM #[.int 1 tk]
  n2:∃tk,HereD K CR "number" "Rests.number" Zbd #[.int 1 tk]
  i1:HereI K CR "Rests.__init__" ZbH
  lw:Here K mg "law" Zne
theorem all_mk{l:PySem.W.OpenLaw}{w:World}{K:PySem.W.Frag}{mg:Str->Option Value}{fa CF CR CE cK cN cF cT cI cX cM cR:Addr}(hfa:mg "law" = some (.ref fa)) (D:Defs K mg CF CR CE cK cN cF cT cI cX cM cR) :
    ∃fd:FuncData,(∀(s:Shared) (v:Value),BindsTo s fd ⟨[v],[]⟩ [("_law_script", v)])/\∀base:Heap,K.In base->base.Ns mainGlobals mg->FnOk l.prog w K mg base CX0 12 fa fd ["_law_script"] (sp_law K):=by
  obtain ⟨f,fd,F,m⟩:=D.lw.ex
  have e:=hfa.symm.trans m
  cases e
  refine ⟨fd,?_,λbase _ _=>?_⟩
  · obtain ⟨oc,od,kV,doc,pm,an,cdv,ct,osl,rfl,lk,hcd⟩:=F.ex
    exact λs v => .of_eq rfl
  · have T:=D.T
    have kd:=D.kd
    obtain ⟨tk0,n1⟩:=D.n1
    obtain ⟨tk1,n2⟩:=D.n2
    have g1:Has l.prog w K mg base "divisor" 1 _ _:=Zi8 D.d1 T
    have g2:Has l.prog w K mg base "is_whole" 1 _ _:=ZhL D.d2 T
    have g3:Has l.prog w K mg base "is_prime" 1 _ _:=ZhM D.d3 T
    have g5:Has l.prog w K mg base "less_times" 1 _ _:=Zgc D.d5
    have g4:=Zkl D.d4 g5
    have ai:=ZlE D.i1 kd.clR kd.nP g2 g3
    have a1:=Zkp D.m1 g1
    have a2:=Zjd D.m2 kd.clF a1
    have a3:HasMX l.prog w K mg base CF "back" 1 _ _ _:=ZlH D.m3 D.xn
    have a4:=Zjb D.m4 g1
    have a5:HasM l.prog w K mg base CF "is_nought" 1 _ _ _:=Zje D.m5
    have a6:=Zh0 D.m6 g1
    have a7:=ZhQ n1 D.xn g1
    have a8:=Zh3 n1 D.xn g1
    have a9:=ZlR D.m7 kd.clF D.nz a6 a8
    have b1:HasM l.prog w K mg base CR "plus" 1 _ _ _:=ZlG D.r1 kd.clR kd.nP
    have b2:HasM l.prog w K mg base CR "minus" 1 _ _ _:=Zkr D.r2 kd.clR kd.nP
    have b7:=ZhR n2 kd.clR kd.nP D.xn g4
    have b8:=Zjc n2 kd.clR kd.nP D.xn g4
    have b3:=ZlI D.r3 kd.clR b8
    have b4:HasM l.prog w K mg base CR "times" 1 _ _ _:=Zkq D.r4 kd.clR kd.nP
    have b5:HasM l.prog w K mg base CR "is_nought" 1 _ _ _:=Zjf D.r5
    have b6:HasM l.prog w K mg base CR "common_bottom" 1 _ _ _:=Zjm D.r6
    have b9:HasM l.prog w K mg base CR "sum_of_products" 3 _ _ _:=ZlS D.r7 kd.clR kd.nP D.nz D.nsu
    have mp:=Zkt kd a1 (b1.mono ∅)
    have mt:=Zjg kd a4 (b4.mono ∅)
    have mz:=ZhX kd (a5.mono ∅) (b5.mono ∅)
    have mm:=Zji kd a2 (b2.mono ∅)
    have mn:=ZhU kd (a7.mono ∅) b7
    have mb:=Zkz kd (a3.mono ∅) b3
    have mo:=Zh1 kd a6 (b6.mono ∅)
    have md:=ZlT kd a9 b9
    have mc:=Zlf kd (a8.mono ∅) b8
    have c1:=ZfB D.c1 mt
    have c2:Has l.prog w K mg base "column_at" 1 _ _:=Zh9 D.c2
    have c3:=ZkL D.c3 md
    have c4:Has l.prog w K mg base "is_square" 1 _ _:=ZgE D.c4 T
    have c5:=Zfp D.c5 D.Z.c c4
    have c6:=Zjs D.c6 c1
    have c7:=ZeE D.c7 mn mo c6
    have c8:=Zel D.c8 T D.nmx D.nmn md
    have c9:=Zem D.c9 T mn mm md (c2.mono ∅) c3
    have c10:=ZdT D.c10 T mn c9 (c8.mono ∅)
    have c11:=Zl1 D.c11 T D.nrv mc mt (c5.mono ∅) (c7.mono ∅) c10
    have c12:=Zhj D.c12 D.nz mp
    have c13:=Zhk D.c13 c1 c12
    have c14:=Zjl D.c14 mn mz
    have c15:=Znp D.c15 c14 c13
    have c16:=Zfm D.c16 T mn mo c15
    have c17:=Zfl D.c17 T mz
    have c18:=Zfn D.c18 T mn mm mb c15
    have c19:=Zjn D.c19 T mn c16 (c17.mono ∅) (c15.mono ∅) c18
    have c20:=ZlN D.c20 T mb c19 (c15.mono ∅)
    have c21:=Zk3 D.c21 T D.Z.c c3
    have c22:=ZfG (P:=l.prog) (w:=w) (base:=base) D.c22 T D.Z.c
    have c23:=Zjw D.c23 D.nrv mn (c12.mono ∅) c21 (c1.mono ∅)
    have c24:=ZfH D.c24 T c20
    have c25:=ZnJ D.c25 T (c5.mono ∅) (c22.mono ∅) (c11.mono ∅) (c23.mono ∅) c24
    have w1:Has l.prog w K mg base "_law_whole" 1 _ _:=Zja D.l1 T
    have w2:Has l.prog w K mg base "_law_divisor" 1 _ _:=Zhf D.l2 T
    have w3:Has l.prog w K mg base "_law_is_prime" 1 _ _:=Zga D.l3
    have w4:=Zid D.l4 w3
    have w5:=Zk8 D.l5 kd ai
    have w6:=Zk4 D.l6 w2
    have w7:=ZgN D.l7 w4
    have w8:Has l.prog w K mg base "_law_make" 1 _ _:=Zk6 D.l8
    have w9:=ZfJ D.l9 T w1 w2
    have w10:=Zif D.l10 w6
    have w11:=Zjy D.l11 w6
    have w12:=Zie D.l12 w6
    have w13:=Zht D.l13 (w8.mono ∅) w11 w12
    have w27:=ZgO D.l27 T w9
    have w28:Has l.prog w K mg base "_law_cell_at" 1 _ _:=Zhv D.l28 T
    have w29:=Zhw D.l29 T w10 (w28.mono ∅)
    have w18:Has l.prog w K mg base "_law_size" 1 _ _:=Zig D.l18
    have w14:=ZjB D.l14 T (w8.mono ∅) w11 w12
    have w15:=Zij D.l15 T (w8.mono ∅) (w12.mono ∅) w13
    have w16:=ZjC (P:=l.prog) (w:=w) (base:=base) D.l16 T (w8.mono ∅)
    have w17:=Zik D.l17 T (w8.mono ∅) (w12.mono ∅) w13
    have w30:=ZfK D.l30 T D.R D.Z c25
    have w19:=Zhx D.l19 T c25 (w27.mono ∅) (w16.mono ∅) (w14.mono ∅) (w17.mono ∅) (w15.mono ∅)
    exact Zo0 F T D.nmn (w7.mono ∅) (w5.mono ∅) (w28.mono ∅) (w18.mono ∅) (w29.mono ∅) (w8.mono ∅) w19 w30
theorem walk{l:PySem.W.OpenLaw}{q:Program}{loose:List Str}{XP:(Str->Option Value)->Heap->Prop}{YP:World->Heap->Prop}{d:DefRec}{K:Params->PySem.W.Frag}(hn:l.most=some 63)(hdf:d.params.defaults=[])
    (hY:∀(w:World) (h:Heap),YP w h->(K w.params).In h)
    (F:∀(w:World) (mg:Str->Option Value) (fa:Addr) (h:Heap),(K w.params).In h->h.Ns mainGlobals mg->mg d.name=some (.ref fa) →
      ∃fd:FuncData,(∀(s:Shared) (u:Value),BindsTo s fd ⟨[u],[]⟩ [("_law_script", u)])/\∀base:Heap,(K w.params).In base->base.Ns mainGlobals mg->FnOk l.prog w (K w.params) mg base CX0 12 fa fd ["_law_script"] (sp_law (K w.params))) :
    PySem.W.WalkO q loose XP YP l.row.toRowW d [] (λf vs=>PySem.call f vs) :=
  L2.walk_ofB (n:=63) (k:=12) (x := "_law_script") (CX:=λ_=>CX0) (sp:=λw=>sp_law (K w.params)) hn ∅ hdf ⟨rfl,∅,∅⟩ hY F (λ_ _ a ns hl hb _ hS=>⟨a,ns,rfl,hS,hl,hb,λ_=>rfl⟩) λ_ _ _ _ _ z=>z
theorem kd_mk{K:PySem.W.Frag}{h:Heap}{mg:Str->Option Value}{CF CR:Addr}(X:K.In h)(G:h.Ns mainGlobals mg)(aF:PySem.W.nsIn K mainGlobals "Fractions" = some (some (.ref CF))) (aR:PySem.W.nsIn K mainGlobals "Rests" = some (some (.ref CR)))
    (p1:PySem.W.plainGet K CF Str.empty=true) (p2:PySem.W.hasDictIn K CF=true) (p3:PySem.W.plainOver K CF=true) (p4:PySem.W.findIn K (.ref CF) "__setattr__" = some (some (.builtin "object.__setattr__")))
    (q1:PySem.W.plainGet K CR Str.empty=true) (q2:PySem.W.hasDictIn K CR=true) (q3:PySem.W.plainOver K CR=true) (q4:PySem.W.findIn K (.ref CR) "__setattr__" = some (some (.builtin "object.__setattr__")))
    (nP:PySem.W.findIn K (.ref CR) "prime" = some none) (mk:PySem.W.makesIn K CF=true) (mi:PySem.W.findIn K (.ref CF) "__init__" = some (some (.builtin "object.__init__"))) (kp:PySem.W.keepIn K (.ref CF)=true):Kd K mg CF CR :=
  ⟨⟨p1,p2,p3,p4⟩,⟨q1,q2,q3,q4⟩,nP,⟨mk,mi,kp⟩,PySem.W.mg_of X G aF,PySem.W.mg_of X G aR⟩
theorem cn_mk{K:PySem.W.Frag}{h:Heap}{mg:Str->Option Value}{x:Str}{C:Addr}(X:K.In h)(G:h.Ns mainGlobals mg)(a:PySem.W.nsIn K mainGlobals x=some (some (.ref C)))(b:PySem.W.isClsIn K C=true)(c:PySem.W.typeIn K (.ref C)=some (.type "type")):CN K mg x C:=⟨PySem.W.mg_of X G a,b,c⟩
theorem xcls_mk{K:PySem.W.Frag}{C:Addr}(ga:PySem.W.findIn K (.ref C) "__getattribute__" = some (some (.builtin "BaseException.__getattribute__"))) (ha:PySem.W.findIn K (.ref C) "__getattr__" = some none) (cl:PySem.W.findIn K (.ref C) "__class__" = some (some (.builtin "object.__class__")))
    (hn:PySem.W.specialIn K (.builtin "object.__class__") "__get__" = some (some (.builtin "getset_descriptor.__get__"))) (tk:PySem.W.takesIn K (.builtin "object.__class__")=some true) (ob:PySem.W.mroIn K C (.type "object")=some true) (be:PySem.W.mroIn K C (.type "BaseException")=some true) (hd:PySem.W.hasDictIn K C=true):XCls K C:=⟨ga,ha,cl,hn,tk,ob,be,hd⟩
theorem apart_cons{K:PySem.W.Frag}{C D:Addr}{r:List Addr}(a:PySem.W.mroIn K C (.ref D)=some false)(n:C≠D)(z:ZlF K C r):ZlF K C (D::r):=⟨⟨a,n⟩,z⟩
end My
open PySem PySem.W PyProof.Rows
local macro_rules | `(tactic| walk_at "xcls") => `(tactic| exact My.xcls_mk (by k_is) (by k_is) (by k_is) (by k_is) (by k_is) (by k_is) (by k_is) (by k_is))
local macro_rules | `(tactic| walk_at "apart") => `(tactic| repeat (first | exact True.intro | (refine' My.apart_cons (by k_is) ∅ ?_)))
set_option maxRecDepth 100000 in
set_option maxHeartbeats 0 in
theorem PySem.Challenge.cw_turnframe_k48_rooms_holds : PySem.Challenge.rw_turnframe_k48_rooms.Holds := by
  w_on; o_law; k_head; (case hw=>w_witness2)
  k_fill
  refine My.walk (l:=PySem.Challenge.rw_turnframe_k48_rooms) rfl rfl (λw h Y=>PySem.W.kIn_of Y) ?F
  case F =>
    intro w mg fa h KX G hmg
    have kd:=by
      refine' My.kd_mk KX G ?e1 ?e2 ?e3 ?e4 ?e5 ?e6 ?e7 ?e8 ?e9 ?e10 ?e11 ?e12 ?e13 ?e14
      (case e1=>k_is); (case e2=>k_is); (case e3=>k_is); (case e4=>k_is); (case e5=>k_is); (case e6=>k_is); (case e7=>k_is)
      (case e8=>k_is); (case e9=>k_is); (case e10=>k_is); (case e11=>k_is); (case e12=>k_is); (case e13=>k_is); (case e14=>k_is)
    have nE:=by
      refine' My.cn_mk (x := "FrameError") KX G ?a ?b ?c
      (case a=>k_is); (case b=>k_is); (case c=>k_is)
    have nk:=by
      refine' My.cn_mk (x := "NoKind") KX G ?a ?b ?c
      (case a=>k_is); (case b=>k_is); (case c=>k_is)
    have nn:=by
      refine' My.cn_mk (x := "NoNumber") KX G ?a ?b ?c
      (case a=>k_is); (case b=>k_is); (case c=>k_is)
    have nf:=by
      refine' My.cn_mk (x := "NoFit") KX G ?a ?b ?c
      (case a=>k_is); (case b=>k_is); (case c=>k_is)
    have nt:=by
      refine' My.cn_mk (x := "NoTurn") KX G ?a ?b ?c
      (case a=>k_is); (case b=>k_is); (case c=>k_is)
    have ni:=by
      refine' My.cn_mk (x := "NoInverse") KX G ?a ?b ?c
      (case a=>k_is); (case b=>k_is); (case c=>k_is)
    have nx:=by
      refine' My.cn_mk (x := "NoText") KX G ?a ?b ?c
      (case a=>k_is); (case b=>k_is); (case c=>k_is)
    have nm:=by
      refine' My.cn_mk (x := "NoName") KX G ?a ?b ?c
      (case a=>k_is); (case b=>k_is); (case c=>k_is)
    have nr:=by
      refine' My.cn_mk (x := "NoRow") KX G ?a ?b ?c
      (case a=>k_is); (case b=>k_is); (case c=>k_is)
    have x_xn:=by
      refine' My.cn_mk (x := "NoNumber") KX G ?a ?b ?c
      (case a=>k_is); (case b=>k_is); (case c=>k_is)
    refine My.all_mk hmg ⟨?T,kd,⟨nE,?eb,nk,nn,nf,nt,ni,nx,nm,nr,PySem.W.mg_none_of KX G ?ve⟩,⟨⟨?Zx,nf.m,?Zi⟩,?Ze,?Zv,?Zo⟩,⟨?xnx,x_xn.m,?xni⟩,PySem.W.mg_none_of KX G ?nz,PySem.W.mg_none_of KX G ?nsu,PySem.W.mg_none_of KX G ?nmx,PySem.W.mg_none_of KX G ?nmn,PySem.W.mg_none_of KX G ?nrv,?d1,?d2,?d3,?d4,?d5,?c1,?c2,?c3,?c4,?c5,?c6,?c7,?c8,?c9,?c10,?c11,?c12,?c13,?c14,?c15,?c16,?c17,?c18,?c19,?c20,?c21,?c22,?c23,?c24,?c25,?l1,?l2,?l3,?l4,?l5,?l6,?l7,?l8,?l9,?l10,?l11,?l12,?l13,?l14,?l15,?l16,?l17,?l18,?l19,?l27,?l28,?l29,?l30,?m1,?m2,?m3,?m4,?m5,?m6,?m7,?r1,?r2,?r3,?r4,?r5,?r6,?r7,?n1,?n2,?i1,?lw⟩
    case eb=>k_is
    case ve=>k_is
    case Zx=>walk_at "xcls"
    case Zi=>k_exc
    case Ze=>k_is
    case Zv=>k_is
    case Zo=>walk_at "apart"
    case xnx=>walk_at "xcls"
    case xni=>k_exc
    case nz=>k_is
    case nsu=>k_is
    case nmx=>k_is
    case nmn=>k_is
    case nrv=>k_is
    case T =>
      refine' My.nm_mk (PySem.W.mg_of KX G ?e1) ?e2 (PySem.W.mg_none_of KX G ?e3) (PySem.W.mg_none_of KX G ?e4) (PySem.W.mg_none_of KX G ?e5) (PySem.W.mg_none_of KX G ?e6) (PySem.W.mg_none_of KX G ?e7) (PySem.W.mg_none_of KX G ?e8) (PySem.W.mg_none_of KX G ?e9) (PySem.W.mg_none_of KX G ?e10)
      (case e1=>k_is); (case e2=>exact ⟨_,rfl⟩); (case e3=>k_is); (case e4=>k_is); (case e5=>k_is); (case e6=>k_is); (case e7=>k_is); (case e8=>k_is); (case e9=>k_is); (case e10=>k_is)
    case i1 =>
      refine' L2.hereI_mk ?e1 ?e2 ?e3 ?e4 ?e5 ?e6 ?e7
      (case e1=>k_is); (case e2=>k_is); (case e3=>k_is); (case e4=>k_is); (case e5=>k_is); (case e6=>k_is); (case e7=>k_is)
    case n1 =>
      refine' ⟨_,L2.hereD_mk ?x0a ?x0i ?x0l ?x0t ?x0c ?x0k⟩
      (case x0a=>k_is); (case x0i=>k_is); (case x0l=>k_is); (case x0t=>(apply Eq.trans; k_is; rfl)); (case x0c=>k_is); (case x0k=>k_is)
    case n2 =>
      refine' ⟨_,L2.hereD_mk ?x1a ?x1i ?x1l ?x1t ?x1c ?x1k⟩
      (case x1a=>k_is); (case x1i=>k_is); (case x1l=>k_is); (case x1t=>(apply Eq.trans; k_is; rfl)); (case x1c=>k_is); (case x1k=>k_is)
    all_goals first
      | (refine' L2.here_mk KX G ?y1 ?y2 ?y3 ?y4
         (case y1=>k_is); (case y2=>k_is); (case y3=>k_is); (case y4=>k_is))
      | (refine' L2.hereM_mk ?z1 ?z2 ?z3 ?z4 ?z5
         (case z1=>k_is); (case z2=>k_is); (case z3=>k_is); (case z4=>k_is); (case z5=>k_is))
