import PyProof.Rows.All
import Wide.All
import OpenK.AllK
import Wide.FinOn
import Lean
import PyProof.EqAt
import PyProof.EqKinds
import PyProof.TupleCall
import PySem.Challenge.RW_turnframe_k71_power
set_option Elab.async false
set_option linter.all false
set_option maxRecDepth 100000
local macro_rules | `(⋯) => `(by omega)
local macro_rules | `(∅) => `(by decide)
local macro_rules | `(‹2›) => `(⟨rfl,rfl,rfl,by decide +kernel,rfl,by decide +kernel,by decide +kernel⟩)
abbrev Q0:=@Nat.le_trans
abbrev Q1:=@List.length_map
abbrev Q2:=@List.getElem?_eq_getElem
abbrev Q3:=@List.getD_eq_getElem?_getD
abbrev Q4:=@Nat.le_refl
abbrev Q5:=@Nat.lt_of_lt_of_le
abbrev Q6:=@List.mem_singleton
abbrev Q7:=@Int.toNat_natCast
abbrev Q8:=@List.mem_cons
abbrev Q9:=@List.mem_of_getElem?
abbrev Qa:=@Nat.pow_le_pow_right
abbrev Qb:=@Nat.ne_of_lt
abbrev Qc:=@Nat.lt_of_le_of_lt
abbrev Qd:=@List.length_append
abbrev Qe:=@List.getElem_mem
abbrev Qf:=@List.mem_append
abbrev Qg:=@List.getElem?_map
abbrev Qh:=@List.size_toArray
abbrev Qi:=@List.mem_map
abbrev Qj:=@List.map_append
abbrev Qk:=@Nat.zero_le
abbrev Ql:=@Int.mul_comm
abbrev Qm:=@List.take_succ
abbrev Qn:=@Int.mul_assoc
abbrev Qo:=@Bool.false_ne_true
abbrev Qp:=@List.mem_append_right
abbrev Qq:=@Int.natAbs_mul
abbrev Qr:=@Int.zero_add
abbrev Qs:=@Rat.num_divInt_den
abbrev Qt:=@Int.natAbs_natCast
abbrev Qu:=@Int.mul_pos
abbrev Qv:=@List.mem_cons_self
abbrev Qw:=@List.getElem?_eq_some_iff
abbrev Qx:=@Nat.lt_irrefl
abbrev Qy:=@Int.fmod_eq_emod_of_nonneg
abbrev Qz:=@Nat.mul_le_mul
abbrev W0:=@List.lookup_cons
abbrev W1:=@Int.gcd_dvd_right
abbrev W3:=@List.mem_cons_of_mem
abbrev W4:=@List.not_mem_nil
abbrev W5:=@Rat.divInt_eq_divInt_iff
abbrev W6:=@List.take_length
abbrev W7:=@List.length_set
abbrev W8:=@List.mem_or_eq_of_mem_set
abbrev W9:=@List.take_zero
abbrev Wa:=@Nat.mul_pos
abbrev Wb:=@Int.natCast_emod
abbrev Wc:=@Nat.pow_succ
abbrev Wd:=@Int.emod_nonneg
abbrev We:=@List.map_set
abbrev Wf:=@List.getElem_of_mem
abbrev Wg:=@List.getElem?_append_right
abbrev Wh:=@List.getElem?_append_left
abbrev Wi:=@Nat.mul_comm
abbrev Wj:=@List.getElem?_set
abbrev Wl:=@Int.natCast_mul
abbrev Wm:=@Rat.divInt_mul_divInt
abbrev Wo:=@Nat.le_succ
abbrev Wp:=@List.length_take
abbrev Wq:=@Int.mul_neg
abbrev Wr:=@Int.gcd_dvd_left
abbrev Ws:=@List.take_of_length_le
abbrev Wt:=@Int.emod_lt_of_pos
abbrev Wv:=@Nat.le_of_lt
abbrev Ww:=@List.map_cons
abbrev Wx:=@Nat.le_of_eq
abbrev Wy:=@Nat.le_of_dvd
abbrev Wz:=@Int.natAbs_dvd_natAbs
abbrev U0:=@Int.natCast_add
abbrev U1:=@Nat.pow_pos
abbrev U2:=@Int.mul_one
abbrev U3:=@List.length_cons
abbrev U4:=@Nat.lt_trans
abbrev U7:=@Nat.not_lt
abbrev U8:=@Nat.lt_or_ge
abbrev U9:=@Nat.mul_le_mul_right
abbrev Ua:=@Int.emod_eq_zero_of_dvd
abbrev Ub:=@Int.emod_eq_of_lt
abbrev Uc:=@Nat.ne_of_gt
abbrev Ud:=@List.mem_filterMap
abbrev Ue:=@Nat.lt_succ_self
abbrev Uf:=@Nat.eq_zero_or_pos
abbrev Ug:=@Nat.pos_of_ne_zero
abbrev Uh:=@Nat.le_succ_of_le
abbrev Ui:=@Nat.mul_le_mul_left
abbrev Uj:=@Bool.and_eq_true
abbrev Uk:=@Nat.pow_add
abbrev Ul:=@Int.ne_of_gt
abbrev Um:=@Nat.sub_self
abbrev Uo:=@List.mem_of_mem_take
abbrev Up:=@Nat.mul_one
abbrev Uq:=@List.getElem?_range
abbrev Ur:=@List.range_succ
abbrev Us:=@List.mem_append_left
abbrev Ut:=@Int.fdiv_eq_ediv_of_nonneg
abbrev Uu:=@List.append_nil
abbrev Uv:=@List.length_replicate
abbrev Uw:=@Int.gcd_comm
abbrev Ux:=@Nat.le_mul_of_pos_left
abbrev Uy:=@Int.one_mul
abbrev Uz:=@Rat.divInt_add_divInt
namespace L2
open PySem PySem.Spec PyProof.Rows
abbrev Key:=Sum Int Str
def Zn3:Key->Value->Bool
  | .inl k,v=>Value.isInt k v
  | .inr x,v=>Value.isStrOf x v
def ZpJ(w:World):Key->Int
  | .inl k=>hashInt k
  | .inr x=>hashStr w x
theorem ZaV:∀ {k:Key} {v:Value},Zn3 k v=true->(∃i t,k=Sum.inl i/\v=Value.int i t)\/(∃x t,k=Sum.inr x/\v=Value.str x t)
  | .inl i,v,h=>by
    obtain ⟨t,e⟩:=Value.isInt_shape (k:=i) (v:=v) h
    exact .inl ⟨i,t,rfl,e⟩
  | .inr x,v,h=>by
    obtain ⟨t,e⟩:=Value.isStrOf_shape (x:=x) (v:=v) h
    exact .inr ⟨x,t,rfl,e⟩
theorem Zn4(a b:Int):decide ((Sum.inl a:Key)=Sum.inl b)=(a==b):=by
  by_cases e:a=b
  · subst e; simp
  · have h:¬(Sum.inl a:Key)=Sum.inl b:=λq=>e (Sum.inl.inj q)
    rw[decide_eq_false h]
    exact (beq_eq_false_iff_ne.mpr e).symm
theorem Zn5(a b:Str):decide ((Sum.inr a:Key)=Sum.inr b)=decide (a=b):=by
  by_cases e:a=b
  · subst e; simp
  · have h:¬(Sum.inr a:Key)=Sum.inr b:=λq=>e (Sum.inr.inj q)
    rw[decide_eq_false h,decide_eq_false e]
theorem Zn6(a:Int)(b:Str):decide ((Sum.inl a:Key)=Sum.inr b)=false:=decide_eq_false (λq=>nomatch q)
theorem Zn7(a:Str)(b:Int):decide ((Sum.inr a:Key)=Sum.inl b)=false:=decide_eq_false (λq=>nomatch q)
def Zdt(prog:Program)(w:World):PySem.KeyKind prog w Key where
  is:=Zn3
  hash:=ZpJ w
  inj:=λv a b ha hb=>by
    rcases ZaV ha with ⟨i,t,rfl,rfl⟩ | ⟨x,t,rfl,rfl⟩
    · rcases ZaV hb with ⟨j,u,rfl,e⟩ | ⟨y,u,rfl,e⟩
      · injection e with e1 _; rw[e1]
      · exact nomatch e
    · rcases ZaV hb with ⟨j,u,rfl,e⟩ | ⟨y,u,rfl,e⟩
      · exact nomatch e
      · injection e with e1 _; rw[e1]
  byValue:=λk v h=>by
    rcases ZaV h with ⟨i,t,rfl,rfl⟩ | ⟨x,t,rfl,rfl⟩ <;> rfl
  pyHash:=λhv h=>by
    rcases ZaV hv with ⟨i,t,rfl,rfl⟩ | ⟨x,t,rfl,rfl⟩
    · exact wpAny_pyHash_int h
    · exact wpAny_pyHash_str h
  eqBool:=λhu hv h=>by
    rcases ZaV hu with ⟨i,t,rfl,rfl⟩ | ⟨x,t,rfl,rfl⟩
    · rcases ZaV hv with ⟨j,u,rfl,rfl⟩ | ⟨y,u,rfl,rfl⟩
      · rw[Zn4] at h; exact wpAny_eqBool_int h
      · rw[Zn6] at h; exact SeqAt.EqAt.int_str i t y u _ _ _ _ h
    · rcases ZaV hv with ⟨j,u,rfl,rfl⟩ | ⟨y,u,rfl,rfl⟩
      · rw[Zn7] at h; exact SeqAt.EqAt.str_int x t j u _ _ _ _ h
      · rw[Zn5] at h; exact wpAny_eqBool_str h
  «strs»:=λk x t v h=>by
    rcases ZaV h with ⟨i,u,rfl,e⟩ | ⟨y,u,rfl,e⟩
    · exact nomatch e
    · injection e with e1 _
      subst e1
      cases v <;> rfl
end L2
namespace L2
open PySem PySem.Spec PyProof.Rows
inductive V where
  | non | bl (b:Bool) | int (i:Int) | str (x:Str) | byt (b:Array UInt8) | flt (b:UInt64) | ref (a:Addr) | ty (n:String)
  deriving DecidableEq
def RelV:V->Value->Prop
  | .non,u=>u=Value.none
  | .bl b,u=>u=Value.bool b
  | .int i,u=>∃t,u=Value.int i t
  | .str x,u=>∃t,u=Value.str x t
  | .byt b,u=>∃t,u=Value.bytes b t
  | .flt b,u=>∃t,u=Value.float b t
  | .ref a,u=>u=Value.ref a
  | .ty n,u=>u=Value.type n
abbrev Vals:List V->List Value->Prop:=Paired RelV
theorem Vals.length{xs:List V}{us:List Value}(r:Vals xs us):xs.length=us.length:=Paired.length r
theorem Vals.get:∀ {xs:List V} {us:List Value} {i:Nat} {x:V},Vals xs us->xs[i]?=some x->∃u,us[i]?=some u/\RelV x u
  | _,_,_,_,.nil,e=>by simp at e
  | _,_,0,_,.cons r _,e=>by simp at e; subst e; exact ⟨_,rfl,r⟩
  | _,_,i+1,x,.cons _ t,e=>by
    obtain ⟨u,h1,h2⟩:=Vals.get (i:=i) (x:=x) t (by simpa using e)
    exact ⟨u,by simpa using h1,h2⟩
theorem Vals.set{x:V}{u:Value}(r:RelV x u):∀ {xs:List V} {us:List Value} (i:Nat),Vals xs us->Vals (xs.set i x) (us.set i u)
  | _,_,_,.nil => .nil
  | _,_,0,.cons _ t => .cons r t
  | _,_,i+1,.cons q t => .cons q (Vals.set r i t)
theorem Vals.append:∀ {xs ys:List V} {us ws:List Value},Vals xs us->Vals ys ws->Vals (xs++ys) (us++ws)
  | _,_,_,_,.nil,s=>s
  | _,_,_,_,.cons r t,s => .cons r (Vals.append t s)
theorem Vals.take:∀ {xs:List V} {us:List Value} (n:Nat),Vals xs us->Vals (xs.take n) (us.take n)
  | _,_,0,_ => .nil
  | _,_,_+1,.nil => .nil
  | _,_,n+1,.cons r t => .cons r (Vals.take n t)
theorem Vals.drop:∀ {xs:List V} {us:List Value} (n:Nat),Vals xs us->Vals (xs.drop n) (us.drop n)
  | _,_,0,r=>r
  | _,_,_+1,.nil => .nil
  | _,_,n+1,.cons _ t=>Vals.drop n t
def RelO:Option V->Option Value->Prop
  | some v,some u=>RelV v u
  | none,none=>True
  | _,_=>False
def KV{κ:Type}:List (κ×V)->List (κ×Value)->Prop:=Paired λ(p:κ×V) (q:κ×Value)=>p.1=q.1/\RelV p.2 q.2
def kV:Key->V
  | .inl i => .int i
  | .inr x => .str x
inductive HO where
    | lst (xs:List V)
    | tup (xs:List V)
    | dK (kvs:List (Key×V)) | dT (kvs:List (List Key×V))
    | set (S:Int->Bool) (n:Nat)
    | ins (C dx:Addr) (fs:List (Str×V))
    | own (x:Addr)
    | xd (fs:List (Str×V))
    | met (f x:Addr)
    | rng (lo hi:Int)
    | frz (o:Obj) (u:HO)
    | tbl (ps:Array Value)
    | ext (φ:Heap->Prop)
abbrev Hp:=Addr->Option HO
def upd(H:Hp)(a:Addr)(o:HO):Hp:=λb=>if b=a then some o else H b
theorem Zaf{H:Hp}{a:Addr}{o:HO}:upd H a o a=some o:=by unfold upd; rw[if_pos rfl]
theorem Zas{H:Hp}{a b:Addr}{o:HO}(h:b≠a):upd H a o b=H b:=by unfold upd; rw[if_neg h]
theorem ZaF{H:Hp}{a b:Addr}{o:HO}(h:H a=some o)(h':H b=none):a≠b:=by
  intro e; subst e; rw[h] at h'; cases h'
section
variable(P:Program)(w:World)
def ObjOk(H:Hp)(h:Heap)(a:Addr):HO->Prop
  | .lst xs=>xs.length<=sizeLine/\∃(its:List Value) (n:Nat),Vals xs its/\h.get? a=some { cls:=.type "list", data:=.seq its.toArray n }
  | .tup xs=>xs.length<=sizeLine/\∃its:List Value,Vals xs its/\IsTup h a its.toArray
  | .dK kvs=>kvs.length<=sizeLine/\(a==sysModules)=false/\∃vs,KV kvs vs/\h.DictOf (Zdt P w) a vs
  | .dT kvs=>kvs.length<=sizeLine/\(a==sysModules)=false/\∃xs:List (List Key×Addr×Value),
      Paired (λ(p:List Key×V) (q:List Key×Addr×Value)=>p.1=q.1/\H q.2.1=some (.tup (p.1.map kV))/\RelV p.2 q.2.2) kvs xs ∧
      ∃o es ep,h.get? a=some o/\o.ExactDict/\o.data = .dict es ep/\es.toList=xs.map (entryOfKey (tupleKind (Zdt P w)))/\(xs.map (·.1)).Nodup
  | .set S n=>h.SetOf (intKind P w) a S n
  | .ins C dx fs=>H dx=some (.own a)/\fs.length<=1000/\dx≠a/\h.get? a=some (PySem.W.instObj C dx) ∧
      ∃mA,h.Ns1 dx mA/\(∀f,RelO (fs.lookup f) (mA f))/\PySem.Within mA (fs.map (·.1))
  | .own _=>∃o,h.get? a=some o
  | .xd fs=>∃mA,h.Ns1 a mA/\∀f,RelO (fs.lookup f) (mA f)
  | .rng lo hi=>∃t u v,h.get? a=some { cls:=.type "range", data:=.fields #[.int lo t,.int hi u,.int 1 v] }
  | .frz o u=>h.get? a=some o/\ObjOk H h a u
  | .tbl ps=>h.get? a=some { cls:=.none,data:=.fields ps }
  | .met f x=>h.get? a=some (PySem.W.methodObj (.ref f) (.ref x))
  | .ext φ=>φ h/\(∃o,h.get? a=some o)/\∀h1 h2:Heap,φ h1->(∀o,h1.get? a=some o->h2.get? a=some o)->φ h2
def HOk(H:Hp)(h:Heap):Prop:=∀a o,H a=some o->ObjOk P w H h a o
end
section
variable{P:Program}{w:World}{H H':Hp}{h h':Heap}{a:Addr}{o:HO}
theorem ObjOk.lt(x:ObjOk P w H h a o):a<h.objs.size:=by
  cases o with
  | lst xs=>obtain ⟨_,_,_,_,e⟩:=x; exact Heap.lt_size e
  | tup xs=>obtain ⟨_,_,_,p⟩:=x; exact p.lt
  | dK kvs=>obtain ⟨_,_,_,_,o,_,_,e,_⟩:=x; exact Heap.lt_size e
  | dT kvs=>obtain ⟨_,_,_,_,o,_,_,e,_⟩:=x; exact Heap.lt_size e
  | set S n=>obtain ⟨o,_,_,_,e,_⟩:=x; exact Heap.lt_size e
  | ins C dx fs=>obtain ⟨_,_,_,e,_⟩:=x; exact Heap.lt_size e
  | own y=>obtain ⟨_,e⟩:=x; exact Heap.lt_size e
  | xd fs=>obtain ⟨_,⟨_,_,_,e,_⟩,_⟩:=x; exact Heap.lt_size e
  | rng lo hi=>obtain ⟨_,_,_,e⟩:=x; exact Heap.lt_size e
  | frz ob u=>obtain ⟨e,_⟩:=x; exact Heap.lt_size e
  | tbl ps=>exact Heap.lt_size (show h.get? a=some _ from x)
  | met f y=>exact Heap.lt_size (show h.get? a=some _ from x)
  | ext φ=>obtain ⟨_,⟨_,e⟩,_⟩:=x; exact Heap.lt_size e
theorem Paired.mapP{α β:Type}{F G:α->β->Prop}:∀ {l₁:List α} {l₂:List β},Paired F l₁ l₂->(∀a b,F a b->G a b)->Paired G l₁ l₂
  | _,_,.nil,_ => .nil
  | _,_,.cons r t,f => .cons (f _ _ r) (Paired.mapP t f)
theorem ObjOk.stay(x:ObjOk P w H h a o)(k:∀b u,(b=a\/H b=some (.own a))->h.get? b=some u->h'.get? b=some u)
    (ho:∀b,H b=some (.own a)->H' b=some (.own a)) (ht:∀b xs,H b=some (.tup xs)->H' b=some (.tup xs)):ObjOk P w H' h' a o:=by
  induction o with
  | lst xs=>obtain ⟨z,its,n,r,e⟩:=x; exact ⟨z,its,n,r,k _ _ (.inl rfl) e⟩
  | tup xs=>obtain ⟨z,its,r,ob,e,c⟩:=x; exact ⟨z,its,r,ob,k _ _ (.inl rfl) e,c⟩
  | dK kvs=>obtain ⟨z,y,vs,r,ob,es,ep,e,c⟩:=x; exact ⟨z,y,vs,r,ob,es,ep,k _ _ (.inl rfl) e,c⟩
  | dT kvs =>
    obtain ⟨z,y,xs,r,ob,es,ep,e,c⟩:=x
    exact ⟨z,y,xs,Paired.mapP r λp q z=>⟨z.1,ht _ _ z.2.1,z.2.2⟩,ob,es,ep,k _ _ (.inl rfl) e,c⟩
  | set S n=>obtain ⟨ob,es,ep,t,e,c⟩:=x; exact ⟨ob,es,ep,t,k _ _ (.inl rfl) e,c⟩
  | ins C dx fs =>
    obtain ⟨d,z,ne,e,mA,⟨od,es,ep,e2,c⟩,r⟩:=x
    exact ⟨ho _ d,z,ne,k _ _ (.inl rfl) e,mA,⟨od,es,ep,k _ _ (.inr d) e2,c⟩,r⟩
  | own y=>obtain ⟨ob,e⟩:=x; exact ⟨ob,k _ _ (.inl rfl) e⟩
  | xd fs=>obtain ⟨mA,⟨od,es,ep,e,c⟩,r⟩:=x; exact ⟨mA,⟨od,es,ep,k _ _ (.inl rfl) e,c⟩,r⟩
  | rng lo hi=>obtain ⟨t,u,v,e⟩:=x; exact ⟨t,u,v,k _ _ (.inl rfl) e⟩
  | frz ob u ih=>obtain ⟨e,q⟩:=x; exact ⟨k _ _ (.inl rfl) e,ih q⟩
  | tbl ps =>
    have e:h.get? a=some { cls:=.none,data:=.fields ps }:=x
    show h'.get? a=some { cls:=.none,data:=.fields ps }
    exact k a _ (.inl rfl) e
  | met f y =>
    have e:h.get? a=some (PySem.W.methodObj (.ref f) (.ref y)):=x
    show h'.get? a=some (PySem.W.methodObj (.ref f) (.ref y))
    exact k a _ (.inl rfl) e
  | ext φ=>obtain ⟨p,⟨o,e⟩,st⟩:=x; exact ⟨st _ _ p λo q=>k _ _ (.inl rfl) q,⟨o,k _ _ (.inl rfl) e⟩,st⟩
theorem HOk.lt(x:HOk P w H h)(e:H a=some o):a<h.objs.size:=(x a o e).lt
theorem HOk.fresh(x:HOk P w H h)(e:h.objs.size<=a):H a=none:=by
  cases q:H a with
  | none=>rfl
  | some u=>exact absurd (Q5 (x.lt q) e) (Qx _)
theorem HOk.kept(x:HOk P w H h)(k:∀b u,h.get? b=some u->h'.get? b=some u):HOk P w H h':=λa o e =>
  (x a o e).stay (λb u _ q=>k b u q) (λ_ q=>q) λ_ _ q=>q
theorem HOk.laid(x:HOk P w H h)(k:∀b u,h.get? b=some u->h'.get? b=some u)(hp:h.objs.size<=a)(new:ObjOk P w (upd H a o) h' a o):HOk P w (upd H a o) h':=λb u e=>by
  have hn:=x.fresh hp
  by_cases hb:b=a
  · subst hb; rw[Zaf] at e; cases e; exact new
  · rw[Zas hb] at e
    exact (x b u e).stay (λc v _ q=>k c v q) (λc q=>by rw[Zas (ZaF q hn)]; exact q) λc xs q=>by rw[Zas (ZaF q hn)]; exact q
end
def Rd(H:Hp)(a:Addr)(u:HO):Prop:=H a=some u\/∃o,H a=some (.frz o u)
theorem Rd.ok{P:Program}{w:World}{H:Hp}{h:Heap}{a:Addr}{u:HO}(r:Rd H a u)(x:HOk P w H h):ObjOk P w H h a u:=by
  rcases r with r | ⟨o,r⟩
  · exact x a u r
  · obtain ⟨_,q⟩:=x a _ r
    exact q
def Mut:Option HO->Prop
  | some (.lst _)=>True
  | some (.dK _)=>True
  | some (.dT _)=>True
  | some (.set _ _)=>True
  | some (.ins _ _ _)=>True
  | some (.ext _)=>True
  | _=>False
section
variable{P:Program}{w:World}{H:Hp}{h h':Heap}{x e:Addr}{o':HO}
theorem HOk.write(ok:HOk P w H h)(mu:Mut (H x))(he:e=x\/H e=some (.own x))(k:∀b u,b≠e->h.get? b=some u->h'.get? b=some u)(heo:∃u,h'.get? e=some u)
    (new:ObjOk P w (upd H x o') h' x o'):HOk P w (upd H x o') h':=λb u q=>by
  have nown:∀c y,H c=some (.own y)->c≠x:=λc y r z=>by subst z; rw[r] at mu; exact mu
  have ntup:∀c xs,H c=some (.tup xs)->c≠x:=λc xs r z=>by subst z; rw[r] at mu; exact mu
  by_cases hb:b=x
  · subst hb; rw[Zaf] at q; cases q; exact new
  · rw[Zas hb] at q
    by_cases hbe:b=e
    · have q':H b=some (.own x):=by
        rcases he with z | z
        · exact absurd (hbe.trans z) hb
        · rw[hbe]; exact z
      rw[q] at q'; cases q'
      obtain ⟨v,hv⟩:=heo
      exact ⟨v,by rw[hbe]; exact hv⟩
    · refine (ok b u q).stay (λc v hc r=>k c v ?_ r) (λc r=>by rw[Zas (nown c b r)]; exact r) λc xs r=>by rw[Zas (ntup c xs r)]; exact r
      rcases hc with rfl | hc
      · exact hbe
      · rintro rfl
        rcases he with z | z
        · exact nown c b hc z
        · rw[hc] at z; cases z; exact hb rfl
end
structure Un (fs ex:List Addr) (H H':Hp) (h h':Heap):Prop where
  keep:∀b o,h.get? b=some o->H b=none->b∉fs->b∉ex->h'.get? b=some o
  slot:∀b o,h.get? b=some o->H b=none->b∈fs->b∉ex->∃sl,h'.get? b=some { o with slots:=sl }
  free:∀b o,h.get? b=some o->H b=none->b∉ex->H' b=none
  there:∀b o,h.get? b=some o->b∉ex->∃o',h'.get? b=some o'
  tups:∀b xs,H b=some (.tup xs)->H' b=some (.tup xs)
  frzs:∀b o u,H b=some (.frz o u)->H' b=some (.frz o u)
  tbls:∀b ps,H b=some (.tbl ps)->∃more,H' b=some (.tbl (ps++more))
section
variable{fs fs' ex ex':List Addr}{H H1 H2:Hp}{h h1 h2 h':Heap}{a x e:Addr}{o:HO}
theorem Un.any(u:Un fs ex H H1 h h1){b:Addr}{ob:Obj}(q:h.get? b=some ob)(n:H b=none)(hx:b∉ex):∃sl,h1.get? b=some { ob with slots:=sl }:=by
  by_cases hb:b∈fs
  · exact u.slot b ob q n hb hx
  · exact ⟨ob.slots,u.keep b ob q n hb hx⟩
theorem Un.kept(k:∀b u,h.get? b=some u->h'.get? b=some u):Un fs ex H H h h' :=
  ⟨λb ob q _ _ _=>k b ob q,λb ob q _ _ _=>⟨ob.slots,k b ob q⟩,λ_ _ _ n _=>n,λb ob q _=>⟨ob,k b ob q⟩,λ_ _ q=>q,λ_ _ _ q=>q,λ_ ps q=>⟨#[],by rw[q]; simp⟩⟩
theorem Un.refl:Un fs ex H H h h:=Un.kept λ_ _ q=>q
theorem Un.laid(k:∀b u,h.get? b=some u->h'.get? b=some u)(hp:h.objs.size<=a)(hn:H a=none):Un fs ex H (upd H a o) h h' where
  keep:=λb u q _ _ _=>k b u q
  slot:=λb u q _ _ _=>⟨u.slots,k b u q⟩
  free:=λb u q n _=>by rw[Zas (Qb (Q5 (Heap.lt_size q) hp))]; exact n
  there:=λb u q _=>⟨u,k b u q⟩
  tups:=λb xs q=>by rw[Zas (ZaF q hn)]; exact q
  frzs:=λb u xs q=>by rw[Zas (ZaF q hn)]; exact q
  tbls:=λb ps q=>⟨#[],by rw[Zas (ZaF q hn),q]; simp⟩
theorem Un.write(mu:Mut (H x))(he:e=x\/H e=some (.own x))(k:∀b u,b≠e->h.get? b=some u->h'.get? b=some u)(heo:∃u,h'.get? e=some u):Un fs ex H (upd H x o) h h':=by
  have hx:∀b,H b=none->b≠x:=λb n z=>by subst z; rw[n] at mu; exact mu
  have hb:∀b,H b=none->b≠e:=λb n z=>by
    subst z
    rcases he with r | r
    · exact hx b n r
    · rw[n] at r; cases r
  have hm:∀b u,H b=some u->¬Mut (some u)->b≠x:=λb u q nm z=>by subst z; rw[q] at mu; exact nm mu
  refine ⟨λb u q n _ _=>k b u (hb b n) q,λb u q n _ _=>⟨u.slots,k b u (hb b n) q⟩,λb u q n _=>by rw[Zas (hx b n)]; exact n,λb u q _=>?_,
    λb xs q=>by rw[Zas (hm b _ q λz=>z)]; exact q,λb u xs q=>by rw[Zas (hm b _ q λz=>z)]; exact q,λb ps q=>⟨#[],by rw[Zas (hm b _ q λz=>z),q]; simp⟩⟩
  by_cases hbe:b=e
  · subst hbe; exact heo
  · exact ⟨u,k b u hbe q⟩
end
def trk(h:Heap)(H:Hp):List Addr:=(List.range h.objs.size).filter λa=>(H a).isSome
def Zlr(h:Heap)(H:Hp):Heap:=PySem.W.hideAll h (trk h H)
theorem ZjE(h:Heap)(H:Hp):(Zlr h H).objs.size=h.objs.size:=PySem.W.hideAll_size _ _
theorem Zls{h:Heap}{H:Hp}{b:Addr}{o:Obj}(e:h.get? b=some o)(n:H b=none):(Zlr h H).get? b=some o :=
  PySem.W.hideAll_get _ e λhm=>by
    have q:(H b).isSome=true:=(List.mem_filter.mp hm).2
    rw[n] at q; simp at q
theorem ZmR{h:Heap}{H:Hp}{b:Addr}{o:Obj}(e:(Zlr h H).get? b=some o):h.get? b=some o/\H b=none:=by
  have e':h.get? b=some o:=PySem.W.of_hideAll (trk h H) e
  refine ⟨e',?_⟩
  cases q:H b with
  | none=>rfl
  | some x =>
    have hm:b∈trk h H:=List.mem_filter.mpr ⟨List.mem_range.mpr (Heap.lt_size e'),by simp[q]⟩
    have z:(Zlr h H).get? b=none:=PySem.W.hideAll_none (trk h H) hm
    rw[z] at e; cases e
def ZmS(g h:Heap)(L:Addr):List (Addr×Obj):=(List.range h.objs.size).filterMap λa=>if a=L\/(g.get? a).isSome=true then none else (h.get? a).map λo=>(a,o)
def rest(g h:Heap)(L d:Addr):List (Addr×Obj):=(ZmS g h L).filter λp=>decide (p.1≠d)
end L2
namespace L2
open PySem PySem.Spec PyProof.Rows
structure Mod (K:PySem.W.Frag) (mg:Str->Option Value) (base:Heap):Prop where
  kin:K.In base
  glob:base.Ns mainGlobals mg
  blt:∃mb,base.Ns builtinsNs mb/\∀x:Str,x ≠ "__name__" -> mb x=bootBuiltins x
  nolimit:base.NoLimit
structure Cx where
  prog:Program
  w:World
  K:PySem.W.Frag
  mg:Str->Option Value
  base:Heap
  A:Around
  N:List Str
  s₀:Shared
  H₀:Hp
  env:Env
  outer:List Env
  stack:List Env
  ex:List Addr
  fn:Str->Bool
  calm:Bool
  pn:List (Addr×Obj)
  xe:Value->Shared->Prop
def frs(l:List Env):List Addr:=l.filterMap (·.frame)
abbrev Cx.fs(X:Cx):List Addr:=frs X.outer
def Vis(sc:Scope)(x:Str):Prop:=sc.names.lookup x=some .local\/sc.names.lookup x=some .cell\/sc.names.lookup x=some .free
def Loc(sc:Scope)(x:Str):Prop:=sc.names.lookup x=some .local\/sc.names.lookup x=some .cell
def Zpy(env:Env)(h:Heap)(m:Str->Option Value)(x:Str)(u:Value):Prop :=
  (env.kindOf x=some .local/\m x=some u)\/((env.kindOf x=some .cell\/env.kindOf x=some .free)/\∃c,env.cells.lookup x=some c/\h.IsCell c (some u))
structure Cx.Ok (X:Cx):Prop where
  mod:Mod X.K X.mg X.base
  kind:X.env.scope.kind = .function
  glob:X.env.globals=mainGlobals
  blt:X.env.builtins=builtinsNs
  above:X.s₀.heap.objs.size<=X.env.locals
  inj:∀x y c,X.env.cells.lookup x=some c->X.env.cells.lookup y=some c->x=y
  has:∀x,(X.env.kindOf x=some .cell\/X.env.kindOf x=some .free)->∃c,X.env.cells.lookup x=some c
  cab:∀x c,X.fn x=true->X.env.cells.lookup x=some c->X.s₀.heap.objs.size<=c
  hd:X.calm=true->X.A.handled=none
  frames:X.A.frames=some X.stack
  stk:X.stack=X.outer\/(X.stack=X.env::X.outer/\X.env.frame=some X.env.locals)
  exf:∀b∈X.ex,b≠X.env.locals/\∀x c,X.env.cells.lookup x=some c->c≠b
  bs:∀b o,X.base.get? b=some o->X.s₀.heap.get? b=some o/\X.H₀ b=none
  bsz:X.base.objs.size<=X.s₀.heap.objs.size
  noex:∀b o,X.base.get? b=some o->b∉X.ex
  exfs:∀b∈X.ex,b∉X.fs
  funs:X.s₀.heap.FunFrames X.base X.outer
  frf:∀b∈X.fs,X.H₀ b=none
structure Inv (X:Cx) (pins:List (Addr×Obj)) (σ:List (Option V)) (H:Hp) (s:Shared):Prop where
  ok:X.Ok
  os:s.os=X.s₀.os
  bare:AllBare s.gens
  base:Un X.fs X.ex X.H₀ H X.s₀.heap s.heap
  loc:∃m,s.heap.Ns X.env.locals m/\∀(i:Nat) (x:Str) (v:V),X.N[i]?=some x->σ[i]?=some (some v)->Vis X.env.scope x->∃u,RelV v u/\Zpy X.env s.heap m x u
  cell:∀x c,X.env.cells.lookup x=some c->∃v,s.heap.IsCell c v
  free:H X.env.locals=none
  freeC:∀x c,X.env.cells.lookup x=some c->H c=none
  pin:∀p∈X.pn++pins,s.heap.get? p.1=some p.2/\H p.1=none/\p.1≠X.env.locals/\p.1∉X.fs/\∀v,p.2.data ≠ .cell v
  hok:HOk X.prog X.w H s.heap
  len:σ.length=X.N.length
section
variable{X:Cx}{pins:List (Addr×Obj)}{σ:List (Option V)}{H H':Hp}{s:Shared}{h':Heap}
theorem Cx.Ok.nofr(ok:X.Ok){b:Addr}{o:Obj}(e:X.base.get? b=some o):b∉X.fs:=λhb=>by
  have:=(ok.funs.mem hb).1
  rw[e] at this; cases this
theorem Inv.bs(I:Inv X pins σ H s):∀b o,X.base.get? b=some o->s.heap.get? b=some o/\H b=none:=λb o e =>
  ⟨I.base.keep b o (I.ok.bs b o e).1 (I.ok.bs b o e).2 (I.ok.nofr e) (I.ok.noex b o e),I.base.free b o (I.ok.bs b o e).1 (I.ok.bs b o e).2 (I.ok.noex b o e)⟩
theorem Inv.bk(I:Inv X pins σ H s):∀b o,X.base.get? b=some o->s.heap.get? b=some o:=λb o e=>(I.bs b o e).1
theorem Inv.mod(I:Inv X pins σ H s):Mod X.K X.mg X.base:=I.ok.mod
theorem Inv.kIn(I:Inv X pins σ H s):X.K.In s.heap:=I.ok.mod.kin.keeps I.bk
theorem Inv.nolimit(I:Inv X pins σ H s):s.heap.NoLimit:=I.ok.mod.nolimit.keeps I.bk
theorem Inv.fr(I:Inv X pins σ H s):∃m,Fr X.base X.env.locals s.heap m :=
  let ⟨m,hn,_⟩:=I.loc
  ⟨m,hn,I.bk,Q0 I.ok.bsz I.ok.above⟩
theorem Inv.lt(I:Inv X pins σ H s):X.env.locals<s.heap.objs.size:=let ⟨_,hn,_⟩:=I.loc; hn.lt
theorem Inv.sz(I:Inv X pins σ H s):X.s₀.heap.objs.size<=s.heap.objs.size:=Q0 I.ok.above (Wv I.lt)
theorem Inv.nofs(I:Inv X pins σ H s){a:Addr}(h:s.heap.objs.size<=a):a∉X.fs:=λhb=>by
  obtain ⟨_,o,ho,_⟩:=I.ok.funs.mem hb
  exact absurd (Q5 (Heap.lt_size ho) (Q0 I.sz h)) (Qx _)
theorem Inv.cne(I:Inv X pins σ H s):∀x c,X.env.cells.lookup x=some c->c≠X.env.locals:=λx c e z=>by
  obtain ⟨v,o,ho,hd⟩:=I.cell x c e
  obtain ⟨m,⟨o',es,ep,ho',hd',_⟩,_⟩:=I.loc
  rw[z,ho'] at ho; cases ho; rw[hd'] at hd; cases hd
theorem Inv.funs(I:Inv X pins σ H s):s.heap.FunFrames X.base X.outer:=by
  have all:∀(l:List Env),(∀b∈frs l,b∈X.fs)->X.s₀.heap.FunFrames X.base l->s.heap.FunFrames X.base l:=by
    intro l
    induction l with
    | nil=>intro _ _; trivial
    | cons env r ih =>
      intro hs hl
      obtain ⟨hk,⟨L,o,hf,hn,ho,hd⟩,hr⟩:=hl
      have hL:L∈X.fs:=hs L (by unfold frs; rw[List.filterMap_cons,hf]; exact Qv)
      obtain ⟨sl,e⟩:=I.base.slot L o ho (I.ok.frf L hL) hL λz=>I.ok.exfs L z hL
      exact ⟨hk,⟨L,_,hf,hn,e,hd⟩,ih (λb hb=>hs b (by unfold frs; rw[List.filterMap_cons,hf]; exact W3 _ hb)) hr⟩
  exact all X.outer (λ_ hb=>hb) I.ok.funs
theorem Inv.stack(I:Inv X pins σ H s):s.heap.FunFrames X.base X.stack:=by
  rcases I.ok.stk with e | ⟨e,hf⟩
  · rw[e]; exact I.funs
  · rw[e]
    obtain ⟨m,hn,_⟩:=I.loc
    refine .cons (by rw[I.ok.kind]; decide) hf hn ?_ I.funs
    exact Heap.get?_none_of_le (Q0 I.ok.bsz I.ok.above)
theorem Inv.stkSub(I:Inv X pins σ H s):∀b∈frs X.stack,b∈X.env.locals::X.fs:=λb hb=>by
  rcases I.ok.stk with e | ⟨e,hf⟩
  · rw[e] at hb; exact W3 _ hb
  · rw[e] at hb
    unfold frs at hb
    rw[List.filterMap_cons,hf] at hb
    exact hb
theorem Inv.stkFree(I:Inv X pins σ H s):∀b∈frs X.stack,H b=none:=λb hb=>by
  rcases Q8.mp (I.stkSub b hb) with e | hb
  · rw[e]; exact I.free
  · obtain ⟨_,o,ho,_⟩:=I.ok.funs.mem hb
    exact I.base.free b o ho (I.ok.frf b hb) λz=>I.ok.exfs b z hb
theorem Inv.step{g':Array GenState}{t':Nat}{d':Drawn}{ch:List Addr}(I:Inv X pins σ H s)
    (hch:∀b∈ch,(b∈X.ex\/X.s₀.heap.objs.size<=b)/\b≠X.env.locals/\(∀x c,X.env.cells.lookup x=some c->c≠b)/\∀p∈X.pn++pins,p.1≠b)
    (keep:∀b o,b≠X.env.locals->b∉X.fs->b∉ch->s.heap.get? b=some o->H b=none->h'.get? b=some o)
    (slot:∀b o,b≠X.env.locals->b∈X.fs->b∉ch->s.heap.get? b=some o->H b=none->∃sl,h'.get? b=some { o with slots:=sl }) (free:∀b o,b∉ch->s.heap.get? b=some o->H b=none->H' b=none)
    (there:∀b o,b∉ch->s.heap.get? b=some o->∃o',h'.get? b=some o')
    (tups:∀b xs,H b=some (.tup xs)->H' b=some (.tup xs)) (frzs:∀b o u,H b=some (.frz o u)->H' b=some (.frz o u)) (tbls:∀b ps,H b=some (.tbl ps)->∃more,H' b=some (.tbl (ps++more)))
    (ns:∀m,s.heap.Ns X.env.locals m->h'.Ns X.env.locals m) (hok:HOk X.prog X.w H' h') (hg:AllBare g') :
    Inv X pins σ H' { s with heap:=h',gens:=g',drawn:=d',toks:=t' }:=by
  have neL:∀b o,X.s₀.heap.get? b=some o->b≠X.env.locals:=λb o e=>Qb (Q5 (Heap.lt_size e) I.ok.above)
  have neC:∀b o,X.s₀.heap.get? b=some o->b∉X.ex->b∉ch:=λb o e hx hb=>by
    rcases (hch b hb).1 with z | z
    · exact hx z
    · exact absurd (Q5 (Heap.lt_size e) z) (Qx _)
  have cellK:∀x c,X.env.cells.lookup x=some c->∀v,s.heap.IsCell c v->h'.IsCell c v:=λx c e v ⟨o,ho,hd⟩=>by
    have nch:c∉ch:=λz=>(hch c z).2.2.1 x c e rfl
    by_cases hc:c∈X.fs
    · obtain ⟨sl,q⟩:=slot c o (I.cne x c e) hc nch ho (I.freeC x c e)
      exact ⟨_,q,hd⟩
    · exact ⟨o,keep c o (I.cne x c e) hc nch ho (I.freeC x c e),hd⟩
  refine ⟨I.ok,I.os,hg,⟨λb o e n hb hx=>?_,λb o e n hb hx=>?_,λb o e n hx=>?_,λb o e hx=>?_,λb xs e=>tups b xs (I.base.tups b xs e),λb o xs e=>frzs b o xs (I.base.frzs b o xs e),λb ps e=>?_⟩,?_,λx c e=>?_,?_,λx c e=>?_,λp hp=>?_,hok,I.len⟩
  · exact keep b o (neL b o e) hb (neC b o e hx) (I.base.keep b o e n hb hx) (I.base.free b o e n hx)
  · obtain ⟨sl,e1⟩:=I.base.slot b o e n hb hx
    obtain ⟨sl',e2⟩:=slot b _ (neL b o e) hb (neC b o e hx) e1 (I.base.free b o e n hx)
    exact ⟨sl',e2⟩
  · obtain ⟨o',e1⟩:=I.base.there b o e hx
    exact free b o' (neC b o e hx) e1 (I.base.free b o e n hx)
  · obtain ⟨o',e1⟩:=I.base.there b o e hx
    exact there b o' (neC b o e hx) e1
  · obtain ⟨m1,e1⟩:=I.base.tbls b ps e
    obtain ⟨m2,e2⟩:=tbls b _ e1
    exact ⟨m1++m2,by rw[e2,Array.append_assoc]⟩
  · obtain ⟨m,hn,hl⟩:=I.loc
    refine ⟨m,ns m hn,λi x v e1 e2 e3=>?_⟩
    obtain ⟨u,r,l⟩:=hl i x v e1 e2 e3
    refine ⟨u,r,?_⟩
    rcases l with l | ⟨k,c,e,z⟩
    · exact .inl l
    · exact .inr ⟨k,c,e,cellK x c e _ z⟩
  · obtain ⟨v,z⟩:=I.cell x c e
    exact ⟨v,cellK x c e v z⟩
  · obtain ⟨m,⟨o,_,_,ho,_⟩,_⟩:=I.loc
    exact free _ o (λz=>(hch _ z).2.1 rfl) ho I.free
  · obtain ⟨v,o,ho,hd⟩:=I.cell x c e
    exact free c o (λz=>(hch c z).2.2.1 x c e rfl) ho (I.freeC x c e)
  · obtain ⟨e,n,ne,nf,d⟩:=I.pin p hp
    have nch:p.1∉ch:=λz=>(hch p.1 z).2.2.2 p hp rfl
    exact ⟨keep p.1 p.2 ne nf nch e n,free p.1 p.2 nch e n,ne,nf,d⟩
theorem Inv.un{t':Nat}(I:Inv X pins σ H s)(u:Un X.fs [] H H' s.heap h')(hok:HOk X.prog X.w H' h'):Inv X pins σ H' { s with heap:=h',toks:=t' }:=by
  obtain ⟨m,⟨o,es,ep,ho,r⟩,_⟩:=id I.loc
  obtain ⟨sl,hL⟩:=u.any ho I.free (by simp)
  exact I.step (g':=s.gens) (d':=s.drawn) (ch:=[]) (λ_ z=>nomatch z) (λb o _ hb _ e n=>u.keep b o e n hb (by simp)) (λb o _ hb _ e n=>u.slot b o e n hb (by simp)) (λb o _ e n=>u.free b o e n (by simp)) (λb o _ e=>u.there b o e (by simp)) u.tups u.frzs u.tbls (λm' hm=>by
    obtain ⟨o',es',ep',ho',r'⟩:=hm
    rw[ho] at ho'; cases ho'
    exact ⟨_,es',ep',hL,r'⟩) hok I.bare
theorem Inv.call{g':Array GenState}{t':Nat}{d':Drawn}{ch:List Addr}(I:Inv X pins σ H s)(u:Un (frs X.stack) ch H H' s.heap h')(hok:HOk X.prog X.w H' h')(hg:AllBare g')
    (hch:∀b∈ch,(b∈X.ex\/X.s₀.heap.objs.size<=b)/\b≠X.env.locals/\(∀x c,X.env.cells.lookup x=some c->c≠b)/\∀p∈X.pn++pins,p.1≠b) :
    Inv X pins σ H' { s with heap:=h',gens:=g',drawn:=d',toks:=t' }:=by
  obtain ⟨m,⟨o,es,ep,ho,r⟩,_⟩:=id I.loc
  obtain ⟨sl,hL⟩:=u.any ho I.free λz=>(hch _ z).2.1 rfl
  exact I.step (ch:=ch) hch (λb o hL hb hc e n=>u.keep b o e n (λz=>(Q8.mp (I.stkSub b z)).elim hL hb) hc) (λb o _ _ hc e n=>u.any e n hc) (λb o hc e n=>u.free b o e n hc) (λb o hc e=>u.there b o e hc) u.tups u.frzs u.tbls (λm' hm=>by
    obtain ⟨o',es',ep',ho',r'⟩:=hm
    rw[ho] at ho'; cases ho'
    exact ⟨_,es',ep',hL,r'⟩) hok hg
theorem Inv.turned{t':Nat}{it:Addr}(I:Inv X pins σ H s)(k:∀b o,b≠it->s.heap.get? b=some o->h'.get? b=some o)(hn:H it=none)(hL:it≠X.env.locals)
    (h1:it∈X.ex\/X.s₀.heap.objs.size<=it) (h2:∀x c,X.env.cells.lookup x=some c->c≠it) (h3:∀p∈X.pn++pins,p.1≠it):Inv X pins σ H { s with heap:=h',toks:=t' }:=by
  have nit:∀b u,H b=some u->b≠it:=λb u e z=>by rw[z,hn] at e; cases e
  refine I.step (g':=s.gens) (d':=s.drawn) (ch:=[it]) (λb hb=>?_) (λb o _ _ hc e _=>k b o (λz=>hc (by simp[z])) e) (λb o _ _ hc e _=>⟨o.slots,k b o (λz=>hc (by simp[z])) e⟩) (λ_ _ _ _ n=>n)
    (λb o hc e=>⟨o,k b o (λz=>hc (by simp[z])) e⟩) (λ_ _ e=>e) (λ_ _ _ e=>e) (λb ps e=>⟨#[],by rw[e]; simp⟩) (λm hm=>?_) (λb u e=>?_) I.bare
  · have e:b=it:=by simpa using hb
    subst e
    exact ⟨h1,hL,h2,h3⟩
  · obtain ⟨o,es,ep,ho,r⟩:=hm
    exact ⟨o,es,ep,k _ o (Ne.symm hL) ho,r⟩
  · refine (I.hok b u e).stay (λc v hc q=>k c v ?_ q) (λ_ q=>q) λ_ _ q=>q
    rcases hc with z | z
    · rw[z]; exact nit b u e
    · exact nit c _ z
theorem Inv.tok(I:Inv X pins σ H s)(t:Nat):Inv X pins σ H { s with toks:=t }:=I.un (h':=s.heap) (t':=t) Un.refl I.hok
theorem Inv.kept{t':Nat}(I:Inv X pins σ H s)(k:∀b u,s.heap.get? b=some u->h'.get? b=some u):Inv X pins σ H { s with heap:=h',toks:=t' }:=I.un (Un.kept k) (I.hok.kept k)
theorem Inv.laid{a:Addr}{o:HO}{t':Nat}(I:Inv X pins σ H s)(k:∀b u,s.heap.get? b=some u->h'.get? b=some u)(hp:s.heap.objs.size<=a)(new:ObjOk X.prog X.w (upd H a o) h' a o) :
    Inv X pins σ (upd H a o) { s with heap:=h',toks:=t' }:=I.un (Un.laid k hp (I.hok.fresh hp)) (I.hok.laid k hp new)
theorem Inv.write{x e:Addr}{o:HO}{t':Nat}(I:Inv X pins σ H s)(mu:Mut (H x))(he:e=x\/H e=some (.own x))(k:∀b u,b≠e->s.heap.get? b=some u->h'.get? b=some u)(heo:∃u,h'.get? e=some u)
    (new:ObjOk X.prog X.w (upd H x o) h' x o):Inv X pins σ (upd H x o) { s with heap:=h',toks:=t' }:=I.un (Un.write mu he k heo) (I.hok.write mu he k heo new)
theorem Inv.weak{σ':List (Option V)}(I:Inv X pins σ H s)(hl:σ'.length=σ.length)(w:∀(i:Nat) v,σ'[i]?=some (some v)->σ[i]?=some (some v)):Inv X pins σ' H s :=
  ⟨I.ok,I.os,I.bare,I.base,let ⟨m,hn,hl'⟩:=I.loc; ⟨m,hn,λi x v e1 e2 e3=>hl' i x v e1 (w i v e2) e3⟩,I.cell,I.free,I.freeC,I.pin,I.hok,hl.trans I.len⟩
theorem Inv.pins_of{pins':List (Addr×Obj)}(I:Inv X pins σ H s)(h:∀p∈pins',s.heap.get? p.1=some p.2/\H p.1=none/\p.1≠X.env.locals/\p.1∉X.fs/\∀v,p.2.data ≠ .cell v):Inv X pins' σ H s :=
  ⟨I.ok,I.os,I.bare,I.base,I.loc,I.cell,I.free,I.freeC,λp hp=>(Qf.mp hp).elim (λz=>I.pin p (Us _ z)) (h p),I.hok,I.len⟩
theorem Zin{N:List Str}(hN:N.Nodup){i j:Nat}{x:Str}(a:N[i]?=some x)(b:N[j]?=some x):i=j:=by
  obtain ⟨h1,e1⟩:=Qw.mp a
  obtain ⟨h2,e2⟩:=Qw.mp b
  exact (List.getElem_inj hN).mp (e1.trans e2.symm)
theorem ZgS{M:Model}{A:Around}{E:Value->Shared->Prop}{i:Nat}{x:Str}{v:V}{u:Value}{Q:Unit->Shared->Prop}(I:Inv X pins σ H s)(hN:X.N.Nodup)(hi:X.N[i]?=some x)(hx:Loc X.env.scope x)(r:RelV v u)
    (h:∀s',Inv X pins (σ.set i (some v)) H s'->(∃a,Heap.SameBut a s.heap s'.heap/\(a=X.env.locals\/X.env.cells.lookup x=some a))->Q () s') (hf:X.fn x=true\/X.env.scope.names.lookup x=some .local:=by first | exact .inl rfl | exact .inr rfl | assumption):wpAny M A (storeName X.env x u) Q E s:=by
  obtain ⟨m,hn,hl⟩:=id I.loc
  have hcls:(X.env.scope.kind == .class||(X.env.scope.kind == .module&&X.env.locals != X.env.globals))=false:=by rw[I.ok.kind]; rfl
  have hiσ:i<σ.length:=by rw[I.len]; exact (Qw.mp hi).1
  have cne:=I.cne
  have tracked:∀ {a:Addr} {h':Heap},(∃o,s.heap.get? a=some o/\H a=none)->Heap.SameBut a s.heap h'->HOk X.prog X.w H h':=fun {a h'} ha hs b ob e=>by
    obtain ⟨_,_,hfree⟩:=ha
    refine (I.hok b ob e).stay (λc w' hc q=>(hs.2 c ?_).trans q) (λ_ q=>q) λ_ _ q=>q
    rintro rfl
    rcases hc with rfl | hc
    · rw[hfree] at e; cases e
    · rw[hfree] at hc; cases hc
  rcases hx with hk | hk
  · refine wpAny_storeName_local hk hn (λh' hn' hs=>?_) hcls
    obtain ⟨oL,_,_,hoL,_⟩:=id hn
    refine h _ ⟨I.ok,I.os,I.bare,⟨λb o e n hb hx=>?_,λb o e n hb hx=>?_,I.base.free,λb o e hx=>?_,I.base.tups,I.base.frzs,I.base.tbls⟩,⟨_,hn',λj y v' e1 e2 e3=>?_⟩,λy c e=>?_,I.free,I.freeC,λp hp=>?_,tracked ⟨oL,hoL,I.free⟩ hs,by simpa using I.len⟩ ⟨_,hs,.inl rfl⟩
    · exact (hs.2 b (Qb (Q5 (Heap.lt_size e) I.ok.above))).trans (I.base.keep b o e n hb hx)
    · obtain ⟨sl,e1⟩:=I.base.slot b o e n hb hx
      exact ⟨sl,(hs.2 b (Qb (Q5 (Heap.lt_size e) I.ok.above))).trans e1⟩
    · obtain ⟨o',e1⟩:=I.base.there b o e hx
      exact ⟨o',(hs.2 b (Qb (Q5 (Heap.lt_size e) I.ok.above))).trans e1⟩
    · by_cases hj:j=i
      · subst hj
        rw[hi] at e1; cases e1
        rw[List.getElem?_set_self hiσ] at e2
        cases e2
        exact ⟨u,r,.inl ⟨hk,by simp⟩⟩
      · rw[List.getElem?_set_ne (Ne.symm hj)] at e2
        obtain ⟨u',r',q⟩:=hl j y v' e1 e2 e3
        refine ⟨u',r',?_⟩
        rcases q with ⟨k,e⟩ | ⟨k,c,e,z⟩
        · refine .inl ⟨k,?_⟩
          have:y≠x:=λe=>hj (Zin hN e1 (e ▸ hi))
          simp[this,e]
        · exact .inr ⟨k,c,e,z.sameBut hs (cne y c e)⟩
    · obtain ⟨w',z⟩:=I.cell y c e
      exact ⟨w',z.sameBut hs (cne y c e)⟩
    · obtain ⟨e,n,ne,nf,d⟩:=I.pin p hp
      exact ⟨(hs.2 p.1 ne).trans e,n,ne,nf,d⟩
  · have hfn:X.fn x=true:=by
      rcases hf with z | z
      · exact z
      · rw[z] at hk; cases hk
    obtain ⟨c,hc⟩:=I.ok.has x (.inl hk)
    obtain ⟨w',z⟩:=I.cell x c hc
    refine wpAny_storeName_cell I.ok.kind hk hc z (λh' hc' hs=>?_)
    obtain ⟨oc,hoc,hocd⟩:=id z
    refine h { s with heap:=h' } ⟨I.ok,I.os,I.bare,⟨λb o e n hb hx=>?_,λb o e n hb hx=>?_,I.base.free,λb o e hx=>?_,I.base.tups,I.base.frzs,I.base.tbls⟩,⟨m,hn.sameBut hs (Ne.symm (cne x c hc)),λj y v' e1 e2 e3=>?_⟩,λy c' e=>?_,I.free,I.freeC,λp hp=>?_,tracked ⟨oc,hoc,I.freeC x c hc⟩ hs,by simpa using I.len⟩ ⟨c,hs,.inr hc⟩
    · exact (hs.2 b (Qb (Q5 (Heap.lt_size e) (I.ok.cab x c hfn hc)))).trans (I.base.keep b o e n hb hx)
    · obtain ⟨sl,e1⟩:=I.base.slot b o e n hb hx
      exact ⟨sl,(hs.2 b (Qb (Q5 (Heap.lt_size e) (I.ok.cab x c hfn hc)))).trans e1⟩
    · obtain ⟨o',e1⟩:=I.base.there b o e hx
      exact ⟨o',(hs.2 b (Qb (Q5 (Heap.lt_size e) (I.ok.cab x c hfn hc)))).trans e1⟩
    · by_cases hj:j=i
      · subst hj
        rw[hi] at e1; cases e1
        rw[List.getElem?_set_self hiσ] at e2
        cases e2
        exact ⟨u,r,.inr ⟨.inl hk,c,hc,hc'⟩⟩
      · rw[List.getElem?_set_ne (Ne.symm hj)] at e2
        obtain ⟨u',r',q⟩:=hl j y v' e1 e2 e3
        refine ⟨u',r',?_⟩
        rcases q with q | ⟨k,c',e,z'⟩
        · exact .inl q
        · refine .inr ⟨k,c',e,z'.sameBut hs ?_⟩
          rintro rfl
          exact hj (Zin hN e1 (I.ok.inj _ _ _ e hc ▸ hi))
    · by_cases hcc:c'=c
      · subst hcc; exact ⟨_,hc'⟩
      · obtain ⟨w2,z2⟩:=I.cell y c' e
        exact ⟨w2,z2.sameBut hs hcc⟩
    · obtain ⟨e,n,ne,nf,d⟩:=I.pin p hp
      refine ⟨(hs.2 p.1 ?_).trans e,n,ne,nf,d⟩
      intro q
      rw[q,hoc] at e
      have q':oc=p.2:=Option.some.inj e
      exact d w' (by rw[<-q']; exact hocd)
theorem Zdc{M:Model}{A:Around}{E:Value->Shared->Prop}{i:Nat}{x:Str}{v:V}{u:Value}{Q:Unit->Shared->Prop}(I:Inv X pins σ H s)(hN:X.N.Nodup)(hi:X.N[i]?=some x)(hx:Loc X.env.scope x)(r:RelV v u)
    (h:∀s',Inv X pins (σ.set i (some v)) H s'->Q () s') (hf:X.fn x=true\/X.env.scope.names.lookup x=some .local:=by first | exact .inl rfl | exact .inr rfl | assumption):wpAny M A (storeName X.env x u) Q E s :=
  ZgS I hN hi hx r (λs' I' _=>h s' I') hf
theorem Inv.call'{s':Shared}{ch:List Addr}(I:Inv X pins σ H s)(ho:s'.os=s.os)(u:Un (frs X.stack) ch H H' s.heap s'.heap)(hok:HOk X.prog X.w H' s'.heap)(hg:AllBare s'.gens)
    (hch:∀b∈ch,(b∈X.ex\/X.s₀.heap.objs.size<=b)/\b≠X.env.locals/\(∀x c,X.env.cells.lookup x=some c->c≠b)/\∀p∈X.pn++pins,p.1≠b):Inv X pins σ H' s':=by
  obtain ⟨h',g',d',t',o'⟩:=s'
  have e:o'=s.os:=ho
  subst e
  exact I.call (g':=g') (t':=t') (d':=d') u hok hg hch
end
abbrev XK:=Value->Option Addr->Hp->Prop
abbrev St:=List (Option V)
abbrev VK:=V->Hp->Prop
abbrev TE:=St->Hp->VK->Prop
abbrev TT:=St->Hp->(Bool->Hp->Prop)->Prop
abbrev TA:=St->Hp->(List V->Hp->Prop)->Prop
structure Ends where
  nx:St->Hp->Prop
  rt:VK
  bk:St->Hp->Prop:=λ_ _=>False
  ct:St->Hp->Prop:=λ_ _=>False
abbrev TS:=Ends->St->Hp->Prop
def EP(X:Cx)(pins:List (Addr×Obj))(σ:St)(Q:VK)(u:Value)(s':Shared):Prop:=∃v H',Inv X pins σ H' s'/\RelV v u/\Q v H'
def TP(X:Cx)(pins:List (Addr×Obj))(σ:St)(Q:Bool->Hp->Prop)(b:Bool)(s':Shared):Prop:=∃H',Inv X pins σ H' s'/\Q b H'
def AP(X:Cx)(pins:List (Addr×Obj))(σ:St)(Q:List V->Hp->Prop)(us:List Value)(s':Shared):Prop:=∃vs H',Inv X pins σ H' s'/\Vals vs us/\Q vs H'
def SP(X:Cx)(pins:List (Addr×Obj))(D:Ends)(f:Flow)(s':Shared):Prop :=
  match f with
  | .next=>∃σ' H',Inv X pins σ' H' s'/\D.nx σ' H'
  | .brk=>∃σ' H',Inv X pins σ' H' s'/\D.bk σ' H'
  | .cont=>∃σ' H',Inv X pins σ' H' s'/\D.ct σ' H'
  | .ret u=>∃v σ' H',Inv X pins σ' H' s'/\RelV v u/\D.rt v H'
def PE(X:Cx)(e:Expr)(t:TE):Prop :=
  ∀(pins:List (Addr×Obj)) (s:Shared) (σ:St) (H:Hp) (Q:VK),Inv X pins σ H s->t σ H Q->wpAny (model X.prog X.w) X.A (eval e X.env) (EP X pins σ Q) X.xe s
def PT(X:Cx)(e:Expr)(t:TT):Prop :=
  ∀(pins:List (Addr×Obj)) (s:Shared) (σ:St) (H:Hp) (Q:Bool->Hp->Prop),Inv X pins σ H s->t σ H Q->wpAny (model X.prog X.w) X.A (isTrue e X.env (eval e X.env)) (TP X pins σ Q) X.xe s
def PW(X:Cx)(e:Expr)(t:TT):Prop :=
  ∀(whole:Sem Value) (pins:List (Addr×Obj)) (s:Shared) (σ:St) (H:Hp) (Q:Bool->Hp->Prop),Inv X pins σ H s->t σ H Q->wpAny (model X.prog X.w) X.A (isTrue e X.env whole) (TP X pins σ Q) X.xe s
theorem PW.pt{X:Cx}{e:Expr}{t:TT}(h:PW X e t):PT X e t:=h _
def PA(X:Cx)(es:List Expr)(t:TA):Prop :=
  ∀(pos:Pos) (pins:List (Addr×Obj)) (s:Shared) (σ:St) (H:Hp) (Q:List V->Hp->Prop),Inv X pins σ H s->t σ H Q->wpAny (model X.prog X.w) X.A (spliced (backTo pos (starEach es X.env))) (AP X pins σ Q) X.xe s
def PS(X:Cx)(st:Stmt)(t:TS):Prop :=
  ∀(pins:List (Addr×Obj)) (s:Shared) (σ:St) (H:Hp) (D:Ends),Inv X pins σ H s->t D σ H->wpAny (model X.prog X.w) X.A (exec st X.env) (SP X pins D) X.xe s
def PSs(X:Cx)(st:List Stmt)(t:TS):Prop :=
  ∀(pins:List (Addr×Obj)) (s:Shared) (σ:St) (H:Hp) (D:Ends),Inv X pins σ H s->t D σ H->wpAny (model X.prog X.w) X.A (execs st X.env) (SP X pins D) X.xe s
theorem thn{α:Type}{t:Sem α}{Q Q':α->Shared->Prop}{M:Model}{A:Around}{E:Value->Shared->Prop}{s:Shared}(h:wpAny M A t Q E s)(hQ:∀a s,Q a s->Q' a s):wpAny M A t Q' E s:=wpAny_mono h hQ λ_ _ x=>x
end L2
namespace L2
open PySem PySem.Spec PyProof.Rows
section
variable{X:Cx}
theorem bin{a b:Expr}{ta tb:TE}(ha:PE X a ta)(hb:PE X b tb){pins:List (Addr×Obj)}{s:Shared}{σ:St}{H:Hp}{R:V->V->Hp->Prop}(I:Inv X pins σ H s)(h:ta σ H λx H1=>tb σ H1 λy H2=>R x y H2)
    {α:Type} {Q:α->Shared->Prop} {f:Value->Value->Sem α}
    (hf:∀v u s2 x y H2,Inv X pins σ H2 s2->RelV x v->RelV y u->R x y H2->wpAny (model X.prog X.w) X.A (f v u) Q X.xe s2) :
    wpAny (model X.prog X.w) X.A (eval a X.env) (λv s₁=>wpAny (model X.prog X.w) X.A (eval b X.env) (λu s₂=>wpAny (model X.prog X.w) X.A (f v u) Q X.xe s₂) X.xe s₁) X.xe s:=by
  refine thn (ha pins s σ H _ I h) λv s1 ⟨x,H1,I1,r1,q1⟩=>?_
  refine thn (hb pins s1 σ H1 _ I1 q1) λu s2 ⟨y,H2,I2,r2,q2⟩=>?_
  exact hf v u s2 x y H2 I2 r1 r2 q2
inductive ZoV (i:Nat) (σ:St) (H:Hp) (Q:VK):Prop
  | mk (v:V) (_:σ[i]?=some (some v)) (_:Q v H):ZoV i σ H Q
def tC(v:V):TE:=λ_ H Q=>Q v H
theorem Zn8{i:Nat}{x:Str}{pos:Pos}(hN:X.N[i]?=some x)(hv:Vis X.env.scope x)(hd:(x==("__debug__" : Str))=false:=by decide) (hcd:(x==("__classdict__" : Str))=false:=by decide):PE X (.Name x pos) (ZoV i):=by
  intro pins s σ H Q I h
  obtain ⟨v,e,h⟩:=h
  obtain ⟨m,hn,hl⟩:=I.loc
  obtain ⟨u,r,l⟩:=hl i x v hN e hv
  have fin:EP X pins σ Q u s:=⟨v,H,I,r,h⟩
  rcases l with ⟨hk,hm⟩ | ⟨hk,c,hc,hcell⟩
  · exact wpAny_Name (wpAny_loadName_local I.ok.kind hk hn hm fin) hd
  · rcases hk with hk | hk
    · exact wpAny_Name (wpAny_loadName_cell I.ok.kind hk hc hcell fin) hd
    · exact wpAny_Name (wpAny_loadName_free I.ok.kind hk hc hcell fin hcd) hd
theorem Zad{i j pos}:PE X (.Constant (.int i) j pos) (tC (.int i)):=λ_ _ _ H _ I h=>wpAny_Constant_int ⟨.int i,H,I.tok _,⟨_,rfl⟩,h⟩
theorem ZcL{b j pos}:PE X (.Constant (.bool b) j pos) (tC (.bl b)):=λ_ _ _ H _ I h=>Constant_bool ⟨.bl b,H,I,rfl,h⟩
theorem Zmu{j pos}:PE X (.Constant .none j pos) (tC .non):=λ_ _ _ H _ I h=>Constant_none ⟨.non,H,I,rfl,h⟩
theorem Zbe{x j pos}:PE X (.Constant (.str x) j pos) (tC (.str x)):=λ_ _ _ H _ I h=>Calls.Constant_str ⟨.str x,H,I.tok _,⟨_,rfl⟩,h⟩
def Gl(X:Cx)(x:Str):Prop:=X.env.kindOf x=some .globalImplicit
theorem Zcm{E:Value->Shared->Prop}{pins:List (Addr×Obj)}{s:Shared}{σ:St}{H:Hp}{x:Str}{u:Value}{pos:Pos}{Q:Value->Shared->Prop}(I:Inv X pins σ H s)(hg:Gl X x)(hm:X.mg x=some u)(h:Q u s)
    (hd:(x==("__debug__" : Str))=false:=by decide):wpAny (model X.prog X.w) X.A (eval (.Name x pos) X.env) Q E s :=
  Calls.Name_function_global I.ok.kind hg (Calls.loadGlobal_global (by rw[I.ok.glob]; exact I.mod.glob.keeps I.bk) hm h) hd
theorem ZeQ{E:Value->Shared->Prop}{pins:List (Addr×Obj)}{s:Shared}{σ:St}{H:Hp}{x:Str}{u:Value}{pos:Pos}{Q:Value->Shared->Prop}(I:Inv X pins σ H s)(hg:Gl X x)(hm:X.mg x=none)(hv:bootBuiltins x=some u)(h:Q u s)
    (hn:x ≠ "__name__" := by decide) (hd:(x==("__debug__" : Str))=false:=by decide):wpAny (model X.prog X.w) X.A (eval (.Name x pos) X.env) Q E s:=by
  obtain ⟨mb,h1,h2⟩:=I.mod.blt
  exact Calls.Name_function_global I.ok.kind hg (Calls.loadGlobal_builtin (by rw[I.ok.glob]; exact I.mod.glob.keeps I.bk) hm (by rw[I.ok.blt]; exact h1.keeps I.bk) ((h2 x hn).trans hv) h) hd
theorem Za5{x:Str}{v:V}{u:Value}{pos:Pos}(hg:Gl X x)(hm:X.mg x=some u)(r:RelV v u)(hd:(x==("__debug__" : Str))=false:=by decide):PE X (.Name x pos) (tC v) :=
  λ_ _ _ H _ I h=>Zcm I hg hm ⟨v,H,I,r,h⟩ hd
theorem ZmT{x:Str}{v:V}{u:Value}{pos:Pos}(hg:Gl X x)(hm:X.mg x=none)(hv:bootBuiltins x=some u)(r:RelV v u)(hn:x ≠ "__name__" := by decide) (hd:(x==("__debug__" : Str))=false:=by decide):PE X (.Name x pos) (tC v) :=
  λ_ _ _ H _ I h=>ZeQ I hg hm hv ⟨v,H,I,r,h⟩ hn hd
variable{a b:Expr}{ta tb:TE}{pos:Pos}
def PC(X:Cx)(op:CmpOp)(a b:Expr)(t:TE):Prop :=
  ∀(pins:List (Addr×Obj)) (s:Shared) (σ:St) (H:Hp) (Q:VK),Inv X pins σ H s->t σ H Q →
    wpAny (model X.prog X.w) X.A (eval a X.env) (λv s₁=>wpAny (model X.prog X.w) X.A (eval b X.env) (λu s₂=>wpAny (model X.prog X.w) X.A (compareOp op v u) (EP X pins σ Q) X.xe s₂) X.xe s₁) X.xe s
theorem Zlt(b:Expr){op:CmpOp}(h:op ≠ .In)(h2:op ≠ .NotIn):behindInMarks op b=false:=by
  have e1:(op==CmpOp.In)=false:=by cases op <;> first | rfl | exact absurd rfl h
  have e2:(op==CmpOp.NotIn)=false:=by cases op <;> first | rfl | exact absurd rfl h2
  cases b <;> simp[behindInMarks,e1,e2]
def tB(t:TE):TT:=λσ H Q=>t σ H λx H1=>∃c,x = .bl c/\Q c H1
theorem Zpz{op:CmpOp}{t:TE}(h:PC X op a b t)(h1:behindInMarks op b=false:=by first | exact Zlt _ ∅ ∅ | rfl):PT X (.Compare a [op] [b] pos) (tB t):=by
  intro pins s σ H Q I hw
  refine wpAny_isTrue_Compare1 (thn (h pins s σ H _ I hw) λv s1 h1=>thn h1 λu s2 h2=>thn h2 λc s3 ⟨x,H1,I1,r1,q1⟩=>?_) h1
  obtain ⟨d,rfl,q⟩:=q1
  cases r1
  exact wpAny_truthy_bool ⟨H1,I1,q⟩
theorem Zbo{e:Expr}{t:TE}(h:PE X e t)(he:∀whole,isTrue e X.env whole=(do let v ← whole; standAt e.pos; holding [v] (truthy v)):=by intro _; rfl):PT X e (tB t):=by
  intro pins s σ H Q I hw
  refine isTrue_plain (thn (h pins s σ H _ I hw) λv s1 ⟨x,H1,I1,r1,q1⟩=>?_) (he _)
  obtain ⟨d,rfl,q⟩:=q1
  cases r1
  exact wpAny_truthy_bool ⟨H1,I1,q⟩
variable{tA tB':TT}{rest:List Expr}
def ZpK(t u:TT):TT:=λσ H Q=>t σ H λc H1=>if c=true then u σ H1 Q else Q false H1
def tOr(t u:TT):TT:=λσ H Q=>t σ H λc H1=>if c=true then Q true H1 else u σ H1 Q
def ZpL(t:TT):TT:=λσ H Q=>t σ H λc H1=>Q (!c) H1
theorem Zdu(ha:PT X a tA):PW X (.BoolOp .And [a] pos) tA:=by
  intro wh pins s σ H Q I h
  refine isTrue_and (thn (ha pins s σ H Q I h) λc s1 e=>?_)
  cases c with
  | true=>exact isTrue_and_nil e
  | false=>exact e
theorem ZeR(ha:PT X a tA):PW X (.BoolOp .Or [a] pos) tA:=by
  intro wh pins s σ H Q I h
  refine isTrue_or (thn (ha pins s σ H Q I h) λc s1 e=>?_)
  cases c with
  | false=>exact isTrue_or_nil e
  | true=>exact e
theorem ZeS(ha:PT X a tA)(hb:PW X (.BoolOp .And (b::rest) pos) tB'):PW X (.BoolOp .And (a::b::rest) pos) (ZpK tA tB'):=by
  intro wh pins s σ H Q I h
  refine isTrue_and (thn (ha pins s σ H _ I h) λc s1 ⟨H1,I1,q1⟩=>?_)
  cases c with
  | true=>exact hb wh pins s1 σ H1 Q I1 q1
  | false=>exact ⟨H1,I1,q1⟩
theorem Zhx(ha:PT X a tA)(hb:PW X (.BoolOp .Or (b::rest) pos) tB'):PW X (.BoolOp .Or (a::b::rest) pos) (tOr tA tB'):=by
  intro wh pins s σ H Q I h
  refine isTrue_or (thn (ha pins s σ H _ I h) λc s1 ⟨H1,I1,q1⟩=>?_)
  cases c with
  | true=>exact ⟨H1,I1,q1⟩
  | false=>exact hb wh pins s1 σ H1 Q I1 q1
theorem ZbR(ha:PT X a tA):PT X (.UnaryOp .Not a pos) (ZpL tA):=by
  intro pins s σ H Q I h
  exact isTrue_not (ha pins s σ H (λc H1=>Q (!c) H1) I h)
def ZoW(ta tb:TE):TE:=λσ H Q=>ta σ H λx H1=>∃c,x = .bl c/\if c=true then tb σ H1 Q else Q (.bl false) H1
def ZoX(ta:TE):TE:=λσ H Q=>ta σ H λx H1=>∃c,x = .bl c/\Q (.bl (!c)) H1
theorem Zb2{op}{t:TE}(h:PE X a t):PE X (.BoolOp op [a] pos) t:=λpins s σ H Q I hw=>BoolOp_one (h pins s σ H Q I hw)
theorem ZbA(ha:PE X a ta)(hb:PE X (.BoolOp .And (b::rest) pos) tb):PE X (.BoolOp .And (a::b::rest) pos) (ZoW ta tb):=by
  intro pins s σ H Q I h
  refine BoolOp_and (thn (ha pins s σ H _ I h) λv s1 ⟨x,H1,I1,r1,q1⟩=>?_)
  obtain ⟨c,rfl,q1⟩:=q1
  cases r1
  refine wpAny_truthy_bool ?_
  cases c with
  | true=>exact hb pins s1 σ H1 Q I1 q1
  | false=>exact ⟨.bl false,H1,I1,rfl,q1⟩
theorem ZjF(ha:PE X a ta):PE X (.UnaryOp .Not a pos) (ZoX ta):=by
  intro pins s σ H Q I h
  refine UnaryOp_ (thn (ha pins s σ H _ I h) λv s1 ⟨x,H1,I1,r1,q1⟩=>?_)
  obtain ⟨c,rfl,q1⟩:=q1
  cases r1
  exact not_of (wpAny_truthy_bool ⟨.bl (!c),H1,I1,rfl,q1⟩)
def tIf(t:TT)(ta tb:TE):TE:=λσ H Q=>t σ H λc H1=>if c=true then ta σ H1 Q else tb σ H1 Q
theorem Zlu{c:Expr}(hc:PT X c tA)(ha:PE X a ta)(hb:PE X b tb):PE X (.IfExp c a b pos) (tIf tA ta tb):=by
  intro pins s σ H Q I h
  refine wpAny_IfExp (thn (hc pins s σ H _ I h) λd s1 ⟨H1,I1,q1⟩=>?_)
  cases d with
  | true=>exact ha pins s1 σ H1 Q I1 q1
  | false=>exact hb pins s1 σ H1 Q I1 q1
end
end L2
namespace L2
open PySem PySem.Spec PyProof.Rows
def SqL(K:PySem.W.Frag)(H:Hp)(a:Addr)(xs:List V):Prop :=
  Rd H a (.lst xs) ∨
    ∃(o:Obj) (its:Array Value) (n:Nat),K.lookup a=some o/\o.cls = .type "list" /\ o.dict=none/\o.data = .seq its n/\its.size<=sizeLine/\Vals xs its.toList
def SqT(K:PySem.W.Frag)(H:Hp)(a:Addr)(xs:List V):Prop :=
  Rd H a (.tup xs) ∨
    ∃(o:Obj) (its:Array Value) (n:Nat),K.lookup a=some o/\o.cls = .type "tuple" /\ o.data = .seq its n/\its.size<=sizeLine/\Vals xs its.toList
def ZpM:Value->Option V
  | .none=>some .non
  | .bool b=>some (.bl b)
  | .int i _=>some (.int i)
  | .str x _=>some (.str x)
  | .bytes b _=>some (.byt b)
  | .float b _=>some (.flt b)
  | .ref a=>some (.ref a)
  | .type n=>some (.ty n)
  | _=>none
theorem RelV.abs{x:V}{u:Value}(r:RelV x u):ZpM u=some x:=by
  cases x with
  | non=>cases r; rfl
  | bl _=>cases r; rfl
  | int _=>obtain ⟨t,rfl⟩:=r; rfl
  | str _=>obtain ⟨t,rfl⟩:=r; rfl
  | byt _=>obtain ⟨t,rfl⟩:=r; rfl
  | flt _=>obtain ⟨t,rfl⟩:=r; rfl
  | ref _=>cases r; rfl
  | ty _=>cases r; rfl
theorem RelV.inj{x y:V}{u:Value}(r:RelV x u)(q:RelV y u):x=y:=Option.some.inj (r.abs.symm.trans q.abs)
theorem Vals.inj:∀ {xs ys:List V} {us:List Value},Vals xs us->Vals ys us->xs=ys
  | _,_,_,.nil,.nil=>rfl
  | _,_,_,.cons r t,.cons r' t'=>by rw[r.inj r',Vals.inj t t']
section
variable{X:Cx}{pins:List (Addr×Obj)}{σ:St}{H:Hp}{s:Shared}{a:Addr}{xs ys:List V}
theorem SqL.of{K:PySem.W.Frag}(h:H a=some (.lst xs)):SqL K H a xs:=.inl (.inl h)
theorem SqT.of{K:PySem.W.Frag}(h:H a=some (.tup xs)):SqT K H a xs:=.inl (.inl h)
theorem Inv.list(I:Inv X pins σ H s)(h:SqL X.K H a xs):∃its:List Value,Vals xs its/\PlainL s.heap a its.toArray/\xs.length<=sizeLine:=by
  rcases h with h | ⟨o,its,n,hk,hc,hd,hs,hz,r⟩
  · obtain ⟨z,its,n,r,e⟩:=h.ok I.hok
    exact ⟨its,r,⟨_,n,e,rfl,rfl,rfl⟩,z⟩
  · refine ⟨its.toList,r,⟨o,n,I.kIn a o hk,hc,hd,by simpa using hs⟩,?_⟩
    have e:=r.length
    simp only[Array.length_toList] at e
    omega
theorem Inv.tuple(I:Inv X pins σ H s)(h:SqT X.K H a xs):∃its:List Value,Vals xs its/\IsTup s.heap a its.toArray/\xs.length<=sizeLine:=by
  rcases h with h | ⟨o,its,n,hk,hc,hs,hz,r⟩
  · obtain ⟨z,its,r,p⟩:=h.ok I.hok
    exact ⟨its,r,p,z⟩
  · refine ⟨its.toList,r,⟨o,I.kIn a o hk,hc,n,by simpa using hs⟩,?_⟩
    have e:=r.length
    simp only[Array.length_toList] at e
    omega
theorem Inv.list_inj(I:Inv X pins σ H s)(h:SqL X.K H a xs)(h':SqL X.K H a ys):xs=ys:=by
  obtain ⟨its,r,⟨o,n,e,_,_,d⟩,_⟩:=I.list h
  obtain ⟨its',r',⟨o',n',e',_,_,d'⟩,_⟩:=I.list h'
  rw[e] at e'; cases e'
  rw[d] at d'
  injection d' with d1 _
  have:its=its':=by simpa using congrArg Array.toList d1
  subst this
  exact r.inj r'
end
abbrev Cx.wish(X:Cx)(E:Value->Shared->Prop):Cx:={ X with xe:=E }
abbrev Cx.nox(X:Cx):Cx:=X.wish λ_ _=>False
theorem Cx.Ok.wish{X:Cx}(ok:X.Ok)(E:Value->Shared->Prop):(X.wish E).Ok :=
  ⟨ok.mod,ok.kind,ok.glob,ok.blt,ok.above,ok.inj,ok.has,ok.cab,ok.hd,ok.frames,ok.stk,ok.exf,ok.bs,ok.bsz,ok.noex,ok.exfs,ok.funs,ok.frf⟩
theorem Cx.Ok.unwish{X:Cx}{E:Value->Shared->Prop}(ok:(X.wish E).Ok):X.Ok :=
  ⟨ok.mod,ok.kind,ok.glob,ok.blt,ok.above,ok.inj,ok.has,ok.cab,ok.hd,ok.frames,ok.stk,ok.exf,ok.bs,ok.bsz,ok.noex,ok.exfs,ok.funs,ok.frf⟩
section
variable{X:Cx}{pins:List (Addr×Obj)}{σ:St}{H:Hp}{s:Shared}{E:Value->Shared->Prop}
theorem Inv.wish(I:Inv X pins σ H s)(E:Value->Shared->Prop):Inv (X.wish E) pins σ H s:=⟨I.ok.wish E,I.os,I.bare,I.base,I.loc,I.cell,I.free,I.freeC,I.pin,I.hok,I.len⟩
theorem Inv.unwish(I:Inv (X.wish E) pins σ H s):Inv X pins σ H s:=⟨I.ok.unwish,I.os,I.bare,I.base,I.loc,I.cell,I.free,I.freeC,I.pin,I.hok,I.len⟩
theorem SP.unwish{D:Ends}{f:Flow}{s':Shared}(h:SP (X.wish E) pins D f s'):SP X pins D f s':=by
  cases f with
  | next=>obtain ⟨σ',H',I,q⟩:=h; exact ⟨σ',H',I.unwish,q⟩
  | brk=>obtain ⟨σ',H',I,q⟩:=h; exact ⟨σ',H',I.unwish,q⟩
  | cont=>obtain ⟨σ',H',I,q⟩:=h; exact ⟨σ',H',I.unwish,q⟩
  | ret u=>obtain ⟨v,σ',H',I,r,q⟩:=h; exact ⟨v,σ',H',I.unwish,r,q⟩
theorem PSs.nox{st:List Stmt}{t:TS}(h:PSs X.nox st t):PSs X st t:=λpins s σ H D I hw =>
  wpAny_mono (h pins s σ H D (I.wish _) hw) (λ_ _ q=>q.unwish) λ_ _ z=>False.elim z
end
section
variable{X:Cx}{st:Stmt}{rest:List Stmt}{t u:TS}{e:Expr}{te:TE}{pos:Pos}
def ZoY:TS:=λD σ H=>D.nx σ H
def ZoR(t u:TS):TS:=λD σ H=>t { D with nx:=u D } σ H
theorem Zat:PSs X [] ZoY:=λ_ _ σ H _ I h=>wpAny_execs_nil ⟨σ,H,I,h⟩
theorem Zab(h1:PS X st t)(h2:PSs X rest u):PSs X (st::rest) (ZoR t u):=by
  intro pins s σ H D I h
  refine wpAny_execs_cons (thn (h1 pins s σ H { D with nx:=u D } I h) λf s1 q=>?_)
  cases f with
  | next =>
    obtain ⟨σ',H',I',q⟩:=q
    exact h2 pins s1 σ' H' D I' q
  | ret v=>exact q
  | brk=>exact q
  | cont=>exact q
theorem Zae(h1:PS X st t):PSs X [st] t:=by
  intro pins s σ H D I h
  refine wpAny_execs_cons (thn (h1 pins s σ H D I h) λf s1 q=>?_)
  cases f with
  | next=>exact wpAny_execs_nil q
  | ret v=>exact q
  | brk=>exact q
  | cont=>exact q
theorem Inv.quiet{pins:List (Addr×Obj)}{σ:St}{H:Hp}{s:Shared}(I:Inv X pins σ H s):interactive X.env=false:=by simp[interactive,I.ok.kind]
def ZoZ(te:TE):TS:=λD σ H=>te σ H λ_ H1=>D.nx σ H1
theorem ZaL(he:PE X e te)(hs:swapsWith e none pos.line X.env=pure false:=by rfl):PS X (.Expr e pos) (ZoZ te):=by
  intro pins s σ H D I h
  exact wpAny_Expr_any (thn (he pins s σ H _ I h) λv s1 ⟨x,H1,I1,r1,q1⟩=>⟨σ,H1,I1,q1⟩) I.quiet hs
def ZpN(te:TE):TS:=λD σ H=>te σ H D.rt
theorem Zaj(he:PE X e te):PS X (.Return (some e) pos) (ZpN te):=by
  intro pins s σ H D I h
  exact wpAny_Return_some (thn (he pins s σ H _ I h) λv s1 ⟨x,H1,I1,r1,q1⟩=>⟨x,σ,H1,I1,r1,q1⟩)
def ZpO(c:TT)(t u:TS):TS:=λD σ H=>c σ H λb H1=>if b=true then t D σ H1 else u D σ H1
theorem ZaC{c:Expr}{a b:List Stmt}{tc:TT}(hc:PT X c tc)(ha:PSs X a t)(hb:PSs X b u):PS X (.If c a b pos) (ZpO tc t u):=by
  intro pins s σ H D I h
  refine wpAny_If (thn (hc pins s σ H _ I h) λd s1 ⟨H1,I1,q1⟩=>?_)
  cases d with
  | true=>exact ha pins s1 σ H1 D I1 q1
  | false=>exact hb pins s1 σ H1 D I1 q1
def Zn9:TS:=λ_ _ _=>False
theorem Zlv:PS X st Zn9:=λ_ _ _ _ _ _ h=>h.elim
end
abbrev TG:=V->St->Hp->(St->Hp->Prop)->Prop
abbrev TGs:=List V->St->Hp->(St->Hp->Prop)->Prop
def PG(X:Cx)(target:Expr)(t:TG):Prop :=
  ∀(pins:List (Addr×Obj)) (s:Shared) (σ:St) (H:Hp) (v:V) (u:Value) (Q:St->Hp->Prop),Inv X pins σ H s->RelV v u->t v σ H Q →
    wpAny (model X.prog X.w) X.A (assign target X.env u) (λ_ s'=>∃σ' H',Inv X pins σ' H' s'/\Q σ' H') X.xe s
def PGs(X:Cx)(ts:List Expr)(t:TGs):Prop :=
  ∀(pins:List (Addr×Obj)) (s:Shared) (σ:St) (H:Hp) (vs:List V) (us:List Value) (Q:St->Hp->Prop),Inv X pins σ H s->Vals vs us->t vs σ H Q →
    wpAny (model X.prog X.w) X.A (assignInOrder ((assignEach ts X.env).map (·.2)) us) (λ_ s'=>∃σ' H',Inv X pins σ' H' s'/\Q σ' H') X.xe s
abbrev Zo0:=V->V->V->Hp->(Hp->Prop)->Prop
def ZpA(X:Cx)(t:Zo0):Prop :=
  ∀(pins:List (Addr×Obj)) (s:Shared) (σ:St) (H:Hp) (o i v:V) (ov iv u:Value) (Q:Hp->Prop),Inv X pins σ H s->RelV o ov->RelV i iv->RelV v u->t o i v H Q →
    wpAny (model X.prog X.w) X.A (setItem ov iv u) (λ_ s'=>∃H',Inv X pins σ H' s'/\Q H') X.xe s
abbrev TIp:=V->V->Hp->VK->Prop
def PIp(X:Cx)(op:Operator)(t:TIp):Prop :=
  ∀(pins:List (Addr×Obj)) (s:Shared) (σ:St) (H:Hp) (x y:V) (v u:Value) (Q:VK),Inv X pins σ H s->RelV x v->RelV y u->t x y H Q →
    wpAny (model X.prog X.w) X.A (inplaceOp op v u) (EP X pins σ Q) X.xe s
section
variable{X:Cx}{pos:Pos}
def ZfZ(i:Nat):TG:=λv σ H Q=>Q (σ.set i (some v)) H
theorem Zau{i:Nat}{x:Str}(hN:X.N.Nodup)(hi:X.N[i]?=some x)(hx:Loc X.env.scope x)(hf:X.fn x=true\/X.env.scope.names.lookup x=some .local:=by first | exact .inl rfl | exact .inr rfl | assumption):PG X (.Name x pos) (ZfZ i):=by
  intro pins s σ H v u Q I r h
  exact wpAny_assign_Name (Zdc I hN hi hx r (λs' I'=>⟨_,H,I',h⟩) hf)
def ZpB:TGs:=λvs σ H Q=>vs=[]/\Q σ H
def ZmU(t:TG)(u:TGs):TGs:=λvs σ H Q=>∃v r,vs=v::r/\t v σ H λσ' H'=>u r σ' H' Q
theorem ZeT:PGs X [] ZpB:=by
  intro pins s σ H vs us Q I r h
  obtain ⟨e,h⟩:=h
  subst e
  cases r
  exact assignInOrder_nil ⟨σ,H,I,h⟩
theorem Zby{e:Expr}{es:List Expr}{t:TG}{u:TGs}(h1:PG X e t)(h2:PGs X es u)
    (hs:(assignEach (e::es) X.env).map (·.2)=assign e X.env::(assignEach es X.env).map (·.2):=by rfl):PGs X (e::es) (ZmU t u):=by
  intro pins s σ H vs us Q I r h
  obtain ⟨v,vr,e1,h⟩:=h
  subst e1
  cases r with
  | cons r rr =>
    rw[hs]
    refine assignInOrder_cons (thn (h1 pins s σ H _ _ _ I r h) λ_ s1 ⟨σ1,H1,I1,q1⟩=>?_)
    exact h2 pins s1 σ1 H1 _ _ Q I1 rr q1
def Zo1(K:PySem.W.Frag)(n:Nat)(t:TGs):TG:=λv σ H Q=>∃a xs,v = .ref a/\SqT K H a xs/\xs.length=n/\t xs σ H Q
theorem ZjG{es:List Expr}{k:Nat}{t:TGs}{n:Nat}(hc:X.calm=true)(h:PGs X es t)
    (hn:(assignEach es X.env).length=n:=by rfl) (hst:(assignEach es X.env).findIdx? (·.1)=none:=by rfl):PG X (.Tuple es k pos) (Zo1 X.K n t):=by
  intro pins s σ H v u Q I r hw
  obtain ⟨a,xs,e1,hq,hl,hw⟩:=hw
  subst e1
  cases r
  obtain ⟨its,rv,ht,hz⟩:=I.tuple hq
  refine assign_Tuple_tuple (I.ok.hd hc) ht (by simp[hn,<-hl,rv.length]) hst λh' hx=>?_
  have I1:Inv X pins σ H { s with heap:=h' }:=I.kept (t':=s.toks) λb o e=>hx b o (Qb (Heap.lt_size e)) e
  exact h pins _ σ H xs _ Q I1 (by simpa using rv) hw
def ZpP(to ti:TE)(t:Zo0):TG:=λv σ H Q=>to σ H λo H1=>ti σ H1 λi H2=>t o i v H2 λH3=>Q σ H3
theorem ZfO{o i:Expr}{to ti:TE}{t:Zo0}(ho:PE X o to)(hi:PE X i ti)(hs:ZpA X t)
    (ha:∀v,assign (.Subscript o i pos) X.env v=(do
      let ov ← holding [v] (eval o X.env)
      let iv ← holding [v,ov] (eval i X.env)
      standAt pos
      holding [v,ov,iv] (setItem ov iv v)
      release [v,ov,iv] []):=by intro _; rfl):PG X (.Subscript o i pos) (ZpP to ti t):=by
  intro pins s σ H v u Q I r h
  rw[ha]
  refine wpAny_bind (wpAny_holding (thn (ho pins s σ H _ I h) λov s1 ⟨x,H1,I1,r1,q1⟩=>?_))
  refine wpAny_bind (wpAny_holding (thn (hi pins s1 σ H1 _ I1 q1) λiv s2 ⟨y,H2,I2,r2,q2⟩=>?_))
  refine wpAny_bind (wpAny_standAt (wpAny_bind (wpAny_holding (thn (hs pins s2 σ H2 x y v ov iv u _ I2 r1 r2 r q2) λ_ s3 ⟨H3,I3,q3⟩=>?_))))
  exact wpAny_release ⟨σ,H3,I3,q3⟩
def Zo2(te:TE)(g:TG):TS:=λD σ H=>te σ H λx H1=>g x σ H1 D.nx
theorem ZfP{tg e:Expr}{te:TE}{g:TG}(he:PE X e te)(hg:PG X tg g)(hs:swapsWithSole [tg] e pos.line X.env=pure false:=by rfl)(hw:swappedStores [tg] e X.env=pure none:=by rfl)
    (h1:(assignEach [tg] X.env).map (·.2)=[assign tg X.env]:=by rfl):PS X (.Assign [tg] e pos) (Zo2 te g):=by
  intro pins s σ H D I h
  refine wpAny_Assign_stores (thn (he pins s σ H _ I h) λv s1 ⟨x,H1,I1,r1,q1⟩=>?_) hs hw
  rw[h1]
  exact thn (hg pins s1 σ H1 x v _ I1 r1 q1) λ_ s2 q=>q
theorem Zak{i:Nat}{x:Str}{e:Expr}{te:TE}{pos':Pos}(hN:X.N.Nodup)(hi:X.N[i]?=some x)(hx:Loc X.env.scope x)(he:PE X e te)(hs:swapsWith e (some (.Name x pos')) pos.line X.env=pure false:=by rfl)(hf:X.fn x=true\/X.env.scope.names.lookup x=some .local:=by first | exact .inl rfl | exact .inr rfl | assumption) :
    PS X (.Assign [.Name x pos'] e pos) (Zo2 te (ZfZ i)):=by
  intro pins s σ H D I h
  refine wpAny_Assign_Name (thn (he pins s σ H _ I h) λv s1 ⟨y,H1,I1,r1,q1⟩=>?_) hs
  exact Zdc I1 hN hi hx r1 (λs2 I2=>⟨_,H1,I2,q1⟩) hf
def ZpQ(i j:Nat)(ta:TA):TS:=λD σ H=>ta σ H λvs H1=>∃v w,vs=[v,w]/\D.nx ((σ.set i (some v)).set j (some w)) H1
theorem Zoa{i j:Nat}{x y:Str}{a b:Expr}{ta:TA}{px py pt:Pos}{kt k2 pt2}(hc:X.calm=true)(hN:X.N.Nodup)(hi:X.N[i]?=some x)(hj:X.N[j]?=some y)(hij:i≠j)
    (hx:X.env.scope.names.lookup x=some .local) (hy:X.env.scope.names.lookup y=some .local) (ha:PA X [a,b] ta)
    (hw:swappedStores [.Tuple [.Name x px,.Name y py] kt pt] (.Tuple [a,b] k2 pt2) X.env=pure (some [x,y]))
    (hs:swapsWithSole [.Tuple [.Name x px,.Name y py] kt pt] (.Tuple [a,b] k2 pt2) pos.line X.env=pure false:=by rfl) :
    PS X (.Assign [.Tuple [.Name x px,.Name y py] kt pt] (.Tuple [a,b] k2 pt2) pos) (ZpQ i j ta):=by
  intro pins s σ H D I h
  rw[exec_Assign_arm]
  refine wpAny_bind (wpAny_standAt ?_)
  rw[hs]
  refine wpAny_bind (wpAny_pure ?_)
  rw[if_neg ∅]
  refine wpAny_bind (Tuple_ (thn (ha _ pins s σ H _ I h) λus s1 ⟨vs,H1,I1,r1,q1⟩=>?_))
  obtain ⟨v,w,e1,q1⟩:=q1
  subst e1
  obtain ⟨u1,u2,rfl,rv,rw'⟩:∃u1 u2,us=[u1,u2]/\RelV v u1/\RelV w u2:=by
    cases r1 with
    | cons p q =>
      cases q with
      | cons p' q' =>
        cases q'
        exact ⟨_,_,rfl,p,p'⟩
  refine wpAny_newObj_type ?_ (by show 2<=sizeLine; decide)
  have I2:Inv X pins σ H1 { s1 with heap:=s1.heap.push { cls:=.type "tuple", data:=.seq [u1,u2].toArray } }:=I1.kept (t':=s1.toks) λb o e=>Heap.get?_push_of_some _ e
  rw[hw]
  refine wpAny_bind (wpAny_pure ?_)
  show wpAny (model X.prog X.w) X.A (do rule "assign.swapped-stores"; let items ← unpackItems (.ref s1.heap.objs.size) 2 none; assignInOrder [λv=>bindName X.env y v,λv=>bindName X.env x v] items.reverse; pure Flow.next) _ _ _
  refine wpAny_bind (wpAny_rule (wpAny_bind (unpackItems_tuple (items:=#[u1,u2]) (I.ok.hd hc) (IsTup.new s1.heap _) λh' hx'=>?_)))
  have I3:=I2.kept (h':=h') (t':=s1.toks) λb o e=>hx' b o (Qb (Heap.lt_size e)) e
  show wpAny _ _ (assignInOrder [λv=>bindName X.env y v,λv=>bindName X.env x v] [u2,u1] >>= λ_=>pure Flow.next) _ _ _
  refine wpAny_bind (assignInOrder_cons (wpAny_bindName (Zdc I3 hN hj (.inl hy) rw' (λs2 I4=>?_) (.inr hy))))
  refine assignInOrder_cons (wpAny_bindName (Zdc I4 hN hi (.inl hx) rv (λs3 I5=>assignInOrder_nil (wpAny_pure ?_)) (.inr hx)))
  rw[List.set_comm _ _ (Ne.symm hij)] at I5
  exact ⟨_,H1,I5,q1⟩
def ZpR(i:Nat)(te:TE)(ti:TIp):TS:=λD σ H=>∃x,σ[i]?=some (some x)/\te σ H λy H1=>ti x y H1 λz H2=>D.nx (σ.set i (some z)) H2
theorem Zio{i:Nat}{x:Str}{e:Expr}{te:TE}{op:Operator}{ti:TIp}{pos':Pos}(hN:X.N.Nodup)(hi:X.N[i]?=some x)(hx:Loc X.env.scope x)(he:PE X e te)(ho:PIp X op ti)(hf:X.fn x=true\/X.env.scope.names.lookup x=some .local:=by first | exact .inl rfl | exact .inr rfl | assumption) :
    PS X (.AugAssign (.Name x pos') op e pos) (ZpR i te ti):=by
  intro pins s σ H D I h
  obtain ⟨v,e1,h⟩:=h
  obtain ⟨m,hn,hl⟩:=I.loc
  have vis:Vis X.env.scope x:=by rcases hx with k | k; exact .inl k; exact .inr (.inl k)
  obtain ⟨u,r,l⟩:=hl i x v hi e1 vis
  refine wpAny_AugAssign_Name ?_
  have go:wpAny (model X.prog X.w) X.A (eval e X.env) (λw s₂=>wpAny (model X.prog X.w) X.A (inplaceOp op u w) (λr s₃=>wpAny (model X.prog X.w) X.A (storeName X.env x r) (λ_=>SP X pins D .next) X.xe s₃) X.xe s₂) X.xe s:=by
    refine thn (he pins s σ H _ I h) λw s1 ⟨y,H1,I1,r1,q1⟩=>?_
    refine thn (ho pins s1 σ H1 v y u w _ I1 r r1 q1) λz s2 ⟨zv,H2,I2,r2,q2⟩=>?_
    exact Zdc I2 hN hi hx r2 (λs3 I3=>⟨_,H2,I3,q2⟩) hf
  rcases l with ⟨hk,hm⟩ | ⟨hk,c,hc,hcell⟩
  · exact wpAny_loadName_local I.ok.kind hk hn hm go
  · rcases hk with hk | hk
    · exact wpAny_loadName_cell I.ok.kind hk hc hcell go
    · rcases hx with k | k
      · have:X.env.scope.names.lookup x=some .free:=hk
        rw[k] at this; cases this
      · have:X.env.scope.names.lookup x=some .free:=hk
        rw[k] at this; cases this
def ipI(f:Int->Int->Int):TIp:=λx y H Q=>∃i j,x = .int i/\y = .int j/\Q (.int (f i j)) H
theorem Zmv:PIp X .Add (ipI λi j=>i+j):=by
  intro pins s σ H x y v u Q I r1 r2 h
  obtain ⟨i,j,e1,e2,q⟩:=h
  subst e1; subst e2
  obtain ⟨t,rfl⟩:=r1
  obtain ⟨t',rfl⟩:=r2
  exact iadd_int ⟨.int _,H,I.tok _,⟨_,rfl⟩,q⟩
end
section
variable{X:Cx}{pos:Pos}
def Zob(c:TT)(tb:TS):TS:=λD σ H=>∃W:Nat->St->Hp->Prop,(∃m,W m σ H)/\∀m σ H,W m σ H →
  c σ H λb H1=>if b=true then ∃N:St->Hp->Prop,(∀σ' H',N σ' H'->∃m',m'<m/\W m' σ' H')/\tb { D with nx:=N,ct:=N,bk:=D.nx } σ H1 else D.nx σ H1
theorem Zb3{c:Expr}{body:List Stmt}{tc:TT}{tb:TS}(hp:PassesOwn (model X.prog X.w) X.A X.env X.xe)(hc:PT X c tc)(hb:PSs X body tb):PS X (.While c body [] pos) (Zob tc tb):=by
  intro pins s σ H D I h
  obtain ⟨W,⟨m0,w0⟩,turn⟩:=h
  refine wpAny_While (codeAny_whileLoop (λn s'=>∃σ' H',Inv X pins σ' H' s'/\W n σ' H') ?_ m0 ⟨σ,H,I,w0⟩)
  rintro n s1 ⟨σ1,H1,I1,w1⟩
  refine wpAny_passesOwn hp (thn (hc pins s1 σ1 H1 _ I1 (turn n σ1 H1 w1)) λb s2 ⟨H2,I2,q2⟩=>?_)
  cases b with
  | true =>
    obtain ⟨N,hN,q2⟩:=q2
    rw[if_pos rfl]
    refine wpAny_passesOwn hp (thn (hb pins s2 σ1 H2 _ I2 q2) λf s3 q3=>?_)
    cases f with
    | next =>
      obtain ⟨σ3,H3,I3,n3⟩:=q3
      obtain ⟨m',hm,w3⟩:=hN σ3 H3 n3
      exact ⟨m',hm,σ3,H3,I3,w3⟩
    | cont =>
      obtain ⟨σ3,H3,I3,n3⟩:=q3
      obtain ⟨m',hm,w3⟩:=hN σ3 H3 n3
      exact ⟨m',hm,σ3,H3,I3,w3⟩
    | brk=>exact q3
    | ret v=>exact q3
  | false =>
    rw[if_neg Qo]
    exact wpAny_execs_nil ⟨σ1,H2,I2,q2⟩
end
structure It where
  go:Nat->Hp->Prop
  yld:Nat->Hp->V->Hp->Prop
  stop:Nat->Hp->Prop
def Zip(X:Cx)(pins:List (Addr×Obj))(H:Hp)(b:Addr):Prop :=
  H b=none/\b≠X.env.locals/\b∉X.fs/\(b∈X.ex\/X.s₀.heap.objs.size<=b)/\(∀x c,X.env.cells.lookup x=some c->c≠b)/\∀p∈X.pn++pins,p.1≠b
theorem Inv.fpOk{X:Cx}{pins:List (Addr×Obj)}{σ:St}{H H':Hp}{s:Shared}{b:Addr}(I:Inv X pins σ H s)(hb:s.heap.objs.size<=b)(hn:H' b=none):Zip X pins H' b:=by
  refine ⟨hn,Uc (Q5 I.lt hb),I.nofs hb,.inr (Q0 I.sz hb),λx c e z=>?_,λp hp z=>?_⟩
  · obtain ⟨v,q⟩:=I.cell x c e
    exact absurd (Q5 q.lt (by rw[z]; exact hb)) (Qx _)
  · exact absurd (Q5 (Heap.lt_size (I.pin p hp).1) (by rw[z]; exact hb)) (Qx _)
structure Turn (P:Program) (w:World) (K:PySem.W.Frag) (tg:Expr) (J:It) (fp:List Addr) (it:Addr) (tn:Nat->Heap->Prop):Prop where
  mem:it∈fp
  obj:∀i h,tn i h->∀b∈fp,∃o,h.get? b=some o/\∀v,o.data ≠ .cell v
  keep:∀i h h',tn i h->(∀b∈fp,∀o,h.get? b=some o->h'.get? b=some o)->tn i h'
  item:∀(X:Cx),X.prog=P->X.w=w->X.K=K->X.calm=true->∀(i:Nat) (pins:List (Addr×Obj)) (s:Shared) (σ:St) (H:Hp) (E:Value->Shared->Prop),Inv X pins σ H s->(∀b∈fp,Zip X pins H b)->tn i s.heap->J.go i H →
    wpAny (model P w) X.A (pyNext (.ref it)) (λr s1=>∃u,r=some u ∧
      wpAny (model P w) X.A (letOwnedTupleGo tg (.ref it) u) (λ_ s2=>∃x H',Inv X pins σ H' s2/\RelV x u/\J.yld i H x H'/\tn (i+1) s2.heap/\∀b∈fp,H' b=none) E s1) E s
  done:∀(X:Cx),X.prog=P->X.w=w->X.K=K->X.calm=true->∀(i:Nat) (pins:List (Addr×Obj)) (s:Shared) (σ:St) (H:Hp) (E:Value->Shared->Prop),Inv X pins σ H s->(∀b∈fp,Zip X pins H b)->tn i s.heap->J.stop i H →
    wpAny (model P w) X.A (pyNext (.ref it)) (λr s1=>r=none/\Inv X pins σ H s1) E s
  self:∀(A:Around) (i:Nat) (s:Shared) (Q:Value->Shared->Prop) (E:Value->Shared->Prop),tn i s.heap->Q (.ref it) s->wpAny (model P w) A (pyIter (.ref it)) Q E s
abbrev TI:=St->Hp->(It->Hp->Prop)->Prop
def PIE(X:Cx)(pins:List (Addr×Obj))(σ:St)(tg:Expr)(R:It->Hp->Prop)(itv:Value)(s2:Shared):Prop :=
  ∃(it:Addr) (fp:List Addr) (tn:Nat->Heap->Prop) (J:It) (H':Hp),itv = .ref it/\Inv X pins σ H' s2/\Turn X.prog X.w X.K tg J fp it tn/\tn 0 s2.heap/\(∀b∈fp,Zip X pins H' b)/\R J H'
def PI(X:Cx)(tg iter:Expr)(wi:TI):Prop :=
  ∀(pins:List (Addr×Obj)) (s:Shared) (σ:St) (H:Hp) (R:It->Hp->Prop),Inv X pins σ H s->wi σ H R →
    wpAny (model X.prog X.w) X.A (eval iter X.env) (λv s1=>wpAny (model X.prog X.w) X.A (pyIter v) (PIE X pins σ tg R) X.xe s1) X.xe s
theorem ZmV{M:Model}{A:Around}{E:Value->Shared->Prop}{s:Shared}{tg:Expr}{it:Addr}{u:Value}{o:Obj}{n:String}{vs:Array Value}{Q:Unit->Shared->Prop}(ho:s.heap.get? it=some o)(hc:o.cls = .type n)(hd:o.data = .fields vs)
    (hn:["enumerate", "zip", "dict_itemiterator", "dict_reverseitemiterator", "odict_iterator", "itertools.zip_longest", "itertools.pairwise"].contains n=false) (hQ:Q () s):wpAny M A (letOwnedTupleGo tg (.ref it) u) Q E s:=by
  unfold letOwnedTupleGo
  cases tg <;> first
    | exact wpAny_pure hQ
    | (cases u <;> first
        | exact wpAny_pure hQ
        | (refine wpAny_bind (wpAny_load ho ?_)
           rw[hc,hd]
           show wpAny M A (if (["enumerate", "zip", "dict_itemiterator", "dict_reverseitemiterator", "odict_iterator", "itertools.zip_longest", "itertools.pairwise"].contains n&&vs[0]?==some (rawInt _))=true then _ else _) Q E s
           rw[if_neg (by intro h; rw[hn,Bool.false_and] at h; cases h)]
           exact wpAny_pure hQ))
def Itl(K:PySem.W.Frag)(a:Addr):It :=
  ⟨λi H=>∃xs x,SqL K H a xs/\xs[i]?=some x,λi H x H'=>H'=H/\∀xs,SqL K H a xs->xs[i]?=some x,λi H=>∃xs,SqL K H a xs/\xs.length<=i⟩
def Itr(lo:Int)(n:Nat):It:=⟨λi _=>i<n,λi H x H'=>H'=H/\x = .int (lo+i),λi _=>n<=i⟩
theorem ZjH{P:Program}{w:World}{K:PySem.W.Frag}{tg:Expr}(a it:Addr):Turn P w K tg (Itl K a) [it] it (λi h=>h.IsListIter it a i) where
  mem:=by simp
  obj:=λi h st b hb=>by
    have e:b=it:=by simpa using hb
    subst e
    obtain ⟨o,e,c,d⟩:=st
    exact ⟨o,e,λv z=>by rw[d] at z; cases z⟩
  keep:=λi h h' st k=>st.at λo e=>k it (by simp) o e
  item:=by
    intro X hP hw hK hc i pins s σ H E I hf st hg
    subst hP hw hK
    obtain ⟨xs,x,hq,hx⟩:=hg
    obtain ⟨its,rv,p,hz⟩:=I.list hq
    obtain ⟨u,hu,ru⟩:=rv.get hx
    obtain ⟨f0,f1,f2,f3,f4,f5⟩:=hf it (by simp)
    refine wpAny_pyNext_list_item st p.isList (x:=u) (by simpa using hu) λh' st' sb=>?_
    have I1:Inv X pins σ H { s with heap:=h' }:=I.turned (t':=s.toks) (λb o hb e=>(sb.2 b hb).trans e) f0 f1 f3 f4 f5
    obtain ⟨o,e,c,d⟩:=id st'
    exact ⟨u,rfl,ZmV (s:={ s with heap:=h' }) e c d ∅ ⟨x,H,I1,ru,⟨rfl,λys hy=>by rw[I.list_inj hy hq]; exact hx⟩,st',λb hb=>(hf b hb).1⟩⟩
  done:=by
    intro X hP hw hK hc i pins s σ H E I hf st hg
    subst hP hw hK
    obtain ⟨xs,hq,hx⟩:=hg
    obtain ⟨its,rv,p,hz⟩:=I.list hq
    obtain ⟨f0,f1,f2,f3,f4,f5⟩:=hf it (by simp)
    have hl:=rv.length
    exact wpAny_pyNext_list_end (I.ok.hd hc) st p.isList (by simp; omega) λh' eb=>⟨rfl,I.turned (t':=s.toks) (λb o hb e=>eb b o hb e) f0 f1 f3 f4 f5⟩
  self:=λ_ _ _ _ _ st h=>wpAny_pyIter_listiter st h
theorem ZiZ{P:Program}{w:World}{K:PySem.W.Frag}{tg:Expr}(it:Addr)(lo:Int)(n:Nat):Turn P w K tg (Itr lo n) [it] it (λi h=>IsRangeIter h it (lo+(i:Nat)*1) ((n:Int)-(i:Nat)) 1) where
  mem:=by simp
  obj:=λi h st b hb=>by
    have e:b=it:=by simpa using hb
    subst e
    exact ⟨_,st,λv z=>by
      have z':Data.fields _=Data.cell v:=z
      cases z'⟩
  keep:=λi h h' st k=>k it (by simp) _ st
  item:=by
    intro X hP hw hK hc i pins s σ H E I hf st hg
    subst hP hw hK
    obtain ⟨f0,f1,f2,f3,f4,f5⟩:=hf it (by simp)
    have W:=Walks.range (prog:=X.prog) (w:=X.w) (I.ok.hd hc) it lo 1 n
    refine W.item i s _ _ hg st λv h' tk hv st' kk=>?_
    obtain ⟨t,rfl⟩:=hv
    have I1:Inv X pins σ H { s with heap:=h',toks:=tk }:=I.turned (λb o hb e=>kk b o (by simpa using hb) e) f0 f1 f3 f4 f5
    refine ⟨_,rfl,ZmV (s:={ s with heap:=h',toks:=tk }) (n := "range_iterator") st' rfl rfl ∅ ⟨.int (lo+i),H,I1,⟨t,?_⟩,⟨rfl,rfl⟩,st',λb hb=>(hf b hb).1⟩⟩
    rw[U2]
  done:=by
    intro X hP hw hK hc i pins s σ H E I hf st hg
    subst hP hw hK
    obtain ⟨f0,f1,f2,f3,f4,f5⟩:=hf it (by simp)
    exact wpAny_pyNext_range_end (I.ok.hd hc) st (by have:n<=i:=hg; omega) λh' eb=>⟨rfl,I.turned (t':=s.toks) (λb o hb e=>eb b o hb e) f0 f1 f3 f4 f5⟩
  self:=λ_ _ _ _ _ st h=>wpAny_pyIter_rangeiter st h
end L2
namespace L2
open PySem PySem.Spec PyProof.Rows
section
variable{X:Cx}{tg:Expr}
def Zo3(K:PySem.W.Frag)(tl:TE):TI:=λσ H R=>tl σ H λx H1=>∃a,x = .ref a/\(∃xs,SqL K H1 a xs)/\R (Itl K a) H1
theorem ZaI{l:Expr}{tl:TE}(hl:PE X l tl):PI X tg l (Zo3 X.K tl):=by
  intro pins s σ H R I h
  refine thn (hl pins s σ H _ I h) λv s1 ⟨x,H1,I1,r1,q1⟩=>?_
  obtain ⟨a,e,⟨xs,hq⟩,q⟩:=q1
  subst e
  cases r1
  obtain ⟨its,rv,p,hz⟩:=I1.list hq
  refine wpAny_pyIter_list p.isList ?_
  refine ⟨s1.heap.objs.size,[s1.heap.objs.size],_,_,H1,rfl,I1.kept (t':=s1.toks) λb o e=>Heap.get?_push_of_some _ e,ZjH a _,⟨_,Heap.get?_push_size _ rfl,rfl,rfl⟩,λb hb=>?_,q⟩
  have e:b=s1.heap.objs.size:=by simpa using hb
  subst e
  exact I1.fpOk (Q4 _) (I1.hok.fresh (Q4 _))
theorem Ziq{pins:List (Addr×Obj)}{σ:St}{H:Hp}{s:Shared}{R:It->Hp->Prop}{E:Value->Shared->Prop}{lo hi:Int}{t u v:Tok}{tk:Nat}(I:Inv X pins σ H s)(h1:-(2^62)<=lo)(h2:lo<2^62)(h3:-(2^62)<=hi)(h4:hi<2^62)
    (q:R (Itr lo (hi-lo).toNat) H):wpAny (model X.prog X.w) X.A (pyIter (.ref s.heap.objs.size)) (PIE X pins σ tg R) E { s with heap:=s.heap.push { cls:=.type "range", data:=.fields #[.int lo t,.int hi u,.int 1 v] },toks:=tk }:=by
  refine wpAny_pyIter_range (IsRange.new ..) (small_one h1 h2 h3 h4) ?_
  have I1:Inv X pins σ H { s with heap:=s.heap.push { cls:=.type "range", data:=.fields #[.int lo t,.int hi u,.int 1 v] },toks:=tk }:=I.kept λb o e=>Heap.get?_push_of_some _ e
  refine ⟨(s.heap.push { cls:=.type "range", data:=.fields #[.int lo t,.int hi u,.int 1 v] }).objs.size,[(s.heap.push { cls:=.type "range", data:=.fields #[.int lo t,.int hi u,.int 1 v] }).objs.size],_,_,H,rfl,
    I1.kept (t':=tk) λb o e=>Heap.get?_push_of_some _ e,ZiZ _ lo (hi-lo).toNat,?_,λb hb=>?_,q⟩
  · have e1:lo+((0:Nat):Int)*1=lo:=by simp
    have e2:(((hi-lo).toNat:Nat):Int)-((0:Nat):Int)=Builtin.Range.rangeSize lo hi 1:=by rw[rangeSize_one]; split <;> omega
    show IsRangeIter _ _ (lo+((0:Nat):Int)*1) ((((hi-lo).toNat:Nat):Int)-((0:Nat):Int)) 1
    rw[e1,e2]
    exact Heap.get?_push_size _ rfl
  · have e:b=(s.heap.push { cls:=.type "range", data:=.fields #[.int lo t,.int hi u,.int 1 v] }).objs.size:=by simpa using hb
    subst e
    exact I1.fpOk (Q4 _) (I1.hok.fresh (Q4 _))
def Zo4(ta:TA):TI:=λσ H R=>ta σ H λvs H1=>∃j:Int,vs=[.int j] /\ -(2^62)<=j/\j<2^62/\R (Itr 0 j.toNat) H1
def Zo5(ta:TA):TI:=λσ H R=>ta σ H λvs H1=>∃i j:Int,vs=[.int i,.int j]/\(-(2^62)<=i/\i<2^62 /\ -(2^62)<=j/\j<2^62)/\R (Itr i (j-i).toNat) H1
theorem ZaN{a:Expr}{ta:TA}{p pos:Pos}(hg:Gl X "range") (hm:X.mg "range" = none) (ha:PA X [a] ta) (hs:starEach [a] X.env=[(false,eval a X.env)]:=by rfl):PI X tg (.Call (.Name "range" p) [a] [] pos) (Zo4 ta):=by
  intro pins s σ H R I h
  refine Call_ (ZeQ I hg hm boot_range (PyProof.Rows.callWith_type1 (thn (ha pos pins s σ H _ I h) λus s1 ⟨vs,H1,I1,r1,q1⟩=>?_) hs rfl))
  obtain ⟨j,e,q1,q2,q⟩:=q1
  subst e
  cases r1 with
  | cons r rr =>
    cases rr
    obtain ⟨t,rfl⟩:=r
    exact call_range_1 (Ziq I1 ⋯ ⋯ q1 q2 (by simpa using q))
theorem ZgT{a b:Expr}{ta:TA}{p pos:Pos}(hg:Gl X "range") (hm:X.mg "range" = none) (ha:PA X [a,b] ta) (hs:starEach [a,b] X.env=[(false,eval a X.env),(false,eval b X.env)]:=by rfl) (hs2:starEach [b] X.env=[(false,eval b X.env)]:=by rfl) :
    PI X tg (.Call (.Name "range" p) [a,b] [] pos) (Zo5 ta):=by
  intro pins s σ H R I h
  refine Call_ (ZeQ I hg hm boot_range (PyProof.Rows.callWith_type1 (thn (ha pos pins s σ H _ I h) λus s1 ⟨vs,H1,I1,r1,q1⟩=>?_) (by rw[hs,hs2]) (by rw[hs2]; rfl)))
  obtain ⟨i,j,e,⟨q1,q2,q3,q4⟩,q⟩:=q1
  subst e
  cases r1 with
  | cons r rr =>
    cases rr with
    | cons r' rr =>
      cases rr
      obtain ⟨t,rfl⟩:=r
      obtain ⟨t',rfl⟩:=r'
      exact call_range_2 (Ziq I1 q1 q2 q3 q4 q)
def ZpS(wi:TI)(g:TG)(tb:TS):TS:=λD σ H=>wi σ H λJ H1=>∃W:Nat->Nat->St->Hp->Prop,(∃m,W 0 m σ H1)/\∀i m σ H,W i m σ H →
  (J.stop i H/\D.nx σ H)\/(J.go i H/\∃N:St->Hp->Prop,(∀σ' H',N σ' H'->∃m',m'<m/\W (i+1) m' σ' H')/\∀x H',J.yld i H x H'->g x σ H' λσ2 H2=>tb { D with nx:=N,ct:=N,bk:=D.nx } σ2 H2)
def Zir(fp:List Addr)(h:Heap):List (Addr×Obj):=fp.filterMap λb=>(h.get? b).map λo=>(b,o)
theorem ZbN{fp:List Addr}{h:Heap}{b:Addr}{o:Obj}(hb:b∈fp)(e:h.get? b=some o):(b,o)∈Zir fp h:=Ud.mpr ⟨b,hb,by rw[e]; rfl⟩
theorem ZjI{fp:List Addr}{h:Heap}{p:Addr×Obj}(hp:p∈Zir fp h):p.1∈fp/\h.get? p.1=some p.2:=by
  obtain ⟨b,hb,e⟩:=Ud.mp hp
  cases q:h.get? b with
  | none=>rw[q] at e; cases e
  | some o =>
    rw[q] at e
    have e':(b,o)=p:=Option.some.inj e
    subst e'
    exact ⟨hb,q⟩
theorem Inv.pinned{pins:List (Addr×Obj)}{σ:St}{H:Hp}{s:Shared}{fp:List Addr}(I:Inv X pins σ H s)(hf:∀b∈fp,Zip X pins H b)(ho:∀b∈fp,∃o,s.heap.get? b=some o/\∀v,o.data ≠ .cell v):Inv X (pins++Zir fp s.heap) σ H s :=
  I.pins_of λp hp=>(Qf.mp hp).elim (λz=>I.pin p (Qp _ z)) λz=>by
    obtain ⟨hb,e⟩:=ZjI z
    obtain ⟨f0,f1,f2,_⟩:=hf p.1 hb
    obtain ⟨o,e',d⟩:=ho p.1 hb
    rw[e] at e'; cases e'
    exact ⟨e,f0,f1,f2,d⟩
theorem Inv.unpinned{pins pl:List (Addr×Obj)}{σ:St}{H:Hp}{s:Shared}(I:Inv X (pins++pl) σ H s):Inv X pins σ H s:=I.pins_of λp hp=>I.pin p (Qp _ (Us _ hp))
theorem Zbf{iter:Expr}{body:List Stmt}{wi:TI}{g:TG}{tb:TS}{pos:Pos}(hp:PassesOwn (model X.prog X.w) X.A X.env X.xe)(hc:X.calm=true)(hi:PI X tg iter wi)(hg:PG X tg g)(hb:PSs X body tb)
    (hs:∀x,foldedSetIterable iter X.env x=pure x:=by intro _; rfl):PS X (.For tg iter body [] pos) (ZpS wi g tb):=by
  intro pins s σ H D I h
  refine wpAny_For (thn (hi pins s σ H _ I h) λv s1 h1=>thn h1 λitv s2 h2=>?_) hs
  obtain ⟨it,fp,tn,J,H2,e,I2,T,st2,f2,W,⟨m0,w0⟩,turn⟩:=h2
  subst e
  have stat:∀ {H':Hp},(∀b∈fp,H' b=none)->∀b∈fp,Zip X pins H' b:=λhn b hb=>⟨hn b hb,(f2 b hb).2⟩
  refine codeAny_forLoop_any (λn s'=>∃i σ' H',Inv X pins σ' H' s'/\tn i s'.heap/\(∀b∈fp,H' b=none)/\W i n σ' H') ?_ m0 ⟨0,σ,H2,I2,st2,λb hb=>(f2 b hb).1,w0⟩
  rintro n s3 ⟨i,σ3,H3,I3,st3,fr3,w3⟩
  rcases turn i n σ3 H3 w3 with ⟨stop,qn⟩ | ⟨go,N,hN,step⟩
  · refine wpAny_passesOwn hp (thn (T.done X rfl rfl rfl hc i pins s3 σ3 H3 X.xe I3 (stat fr3) st3 stop) λr s4 ⟨hr,I4⟩=>?_)
    subst hr
    exact wpAny_execs_nil ⟨σ3,H3,I4,qn⟩
  · refine wpAny_passesOwn hp (thn (T.item X rfl rfl rfl hc i pins s3 σ3 H3 X.xe I3 (stat fr3) st3 go) λr s4 ⟨u,hr,h4⟩=>?_)
    subst hr
    refine wpAny_passesOwn hp (thn h4 λ_ s5 ⟨x,H5,I5,r5,y5,st5,fr5⟩=>?_)
    have I5':=I5.pinned (stat fr5) (T.obj _ _ st5)
    refine wpAny_passesOwn hp (thn (hg _ s5 σ3 H5 x u _ I5' r5 (step x H5 y5)) λ_ s6 ⟨σ6,H6,I6,q6⟩=>?_)
    refine wpAny_passesOwn hp (thn (hb _ s6 σ6 H6 _ I6 q6) λf s7 q7=>?_)
    have again:∀ {σ7:St} {H7:Hp},Inv X (pins++Zir fp s5.heap) σ7 H7 s7->N σ7 H7->∃m,m<n/\∃i σ' H',Inv X pins σ' H' s7/\tn i s7.heap/\(∀b∈fp,H' b=none)/\W i m σ' H':=fun {σ7 H7} I7 n7=>by
      obtain ⟨m',hm,w7⟩:=hN σ7 H7 n7
      refine ⟨m',hm,i+1,σ7,H7,I7.unpinned,T.keep _ _ _ st5 λb hb o e=>(I7.pin (b,o) (Qp _ (Qp _ (ZbN hb e)))).1,λb hb=>?_,w7⟩
      obtain ⟨o,e,d⟩:=T.obj _ _ st5 b hb
      exact (I7.pin (b,o) (Qp _ (Qp _ (ZbN hb e)))).2.1
    cases f with
    | next=>obtain ⟨σ7,H7,I7,n7⟩:=q7; exact again I7 n7
    | cont=>obtain ⟨σ7,H7,I7,n7⟩:=q7; exact again I7 n7
    | brk=>obtain ⟨σ7,H7,I7,q7⟩:=q7; exact ⟨σ7,H7,I7.unpinned,q7⟩
    | ret v=>obtain ⟨x7,σ7,H7,I7,r7,q7⟩:=q7; exact ⟨x7,σ7,H7,I7.unpinned,r7,q7⟩
end
theorem Zcn{K:PySem.W.Frag}{a:Addr}{xs:List V}{g:TG}{tb:TS}{D:Ends}{σ:St}{H:Hp}(Pv:Nat->St->Hp->Prop)(h0:Pv 0 σ H)(hl:∀i σ H,i<=xs.length->Pv i σ H->SqL K H a xs)
    (hs:∀i x σ H,xs[i]?=some x->Pv i σ H->g x σ H λσ2 H2=>tb { D with nx:=Pv (i+1),ct:=Pv (i+1),bk:=D.nx } σ2 H2) (hd:∀σ H,Pv xs.length σ H->D.nx σ H) :
    ∃W:Nat->Nat->St->Hp->Prop,(∃m,W 0 m σ H)/\∀i m σ H,W i m σ H →
      ((Itl K a).stop i H/\D.nx σ H)\/((Itl K a).go i H/\∃N:St->Hp->Prop,(∀σ' H',N σ' H'->∃m',m'<m/\W (i+1) m' σ' H')/\∀x H',(Itl K a).yld i H x H'->g x σ H' λσ2 H2=>tb { D with nx:=N,ct:=N,bk:=D.nx } σ2 H2):=by
  refine ⟨λi m σ H=>m=xs.length-i/\i<=xs.length/\Pv i σ H,⟨xs.length,by simp,Qk _,h0⟩,?_⟩
  rintro i m σ H ⟨rfl,hi,p⟩
  have q:=hl i σ H hi p
  by_cases hlt:i<xs.length
  · refine .inr ⟨⟨xs,xs[i],q,by simp[hlt]⟩,Pv (i+1),λσ' H' p'=>⟨xs.length-(i+1),⋯,rfl,hlt,p'⟩,λx H' y=>?_⟩
    obtain ⟨e,y⟩:=y
    subst e
    exact hs i x σ _ (y xs q) p
  · have e:i=xs.length:=by omega
    subst e
    exact .inl ⟨⟨xs,q,Q4 _⟩,hd σ H p⟩
theorem Zba{lo:Int}{n:Nat}{g:TG}{tb:TS}{D:Ends}{σ:St}{H:Hp}(Pv:Nat->St->Hp->Prop)(h0:Pv 0 σ H)
    (hs:∀i σ H,i<n->Pv i σ H->g (.int (lo+i)) σ H λσ2 H2=>tb { D with nx:=Pv (i+1),ct:=Pv (i+1),bk:=D.nx } σ2 H2) (hd:∀σ H,Pv n σ H->D.nx σ H) :
    ∃W:Nat->Nat->St->Hp->Prop,(∃m,W 0 m σ H)/\∀i m σ H,W i m σ H →
      ((Itr lo n).stop i H/\D.nx σ H)\/((Itr lo n).go i H/\∃N:St->Hp->Prop,(∀σ' H',N σ' H'->∃m',m'<m/\W (i+1) m' σ' H')/\∀x H',(Itr lo n).yld i H x H'->g x σ H' λσ2 H2=>tb { D with nx:=N,ct:=N,bk:=D.nx } σ2 H2):=by
  refine ⟨λi m σ H=>m=n-i/\i<=n/\Pv i σ H,⟨n,by simp,Qk _,h0⟩,?_⟩
  rintro i m σ H ⟨rfl,hi,p⟩
  by_cases hlt:i<n
  · refine .inr ⟨hlt,Pv (i+1),λσ' H' p'=>⟨n-(i+1),⋯,rfl,hlt,p'⟩,λx H' y=>?_⟩
    obtain ⟨e,y⟩:=y
    subst e y
    exact hs i σ _ hlt p
  · have e:i=n:=by omega
    subst e
    exact .inl ⟨Q4 _,hd σ H p⟩
end L2
namespace L2
open PySem PySem.Spec PyProof.Rows
abbrev R2:=V->V->Hp->VK->Prop
def OpR(X:Cx)(f:Value->Value->Sem Value)(r:R2):Prop :=
  ∀(pins:List (Addr×Obj)) (s:Shared) (σ:St) (H:Hp) (x y:V) (v u:Value) (Q:VK),Inv X pins σ H s->RelV x v->RelV y u->r x y H Q →
    wpAny (model X.prog X.w) X.A (f v u) (EP X pins σ Q) X.xe s
def UnR(X:Cx)(f:Value->Sem Value)(r:V->Hp->VK->Prop):Prop :=
  ∀(pins:List (Addr×Obj)) (s:Shared) (σ:St) (H:Hp) (x:V) (v:Value) (Q:VK),Inv X pins σ H s->RelV x v->r x H Q →
    wpAny (model X.prog X.w) X.A (f v) (EP X pins σ Q) X.xe s
def CallR(X:Cx)(f:Value)(r:List V->Hp->VK->Prop):Prop :=
  ∀(pins:List (Addr×Obj)) (s:Shared) (σ:St) (H:Hp) (xs:List V) (us:List Value) (Q:VK),Inv X pins σ H s->Vals xs us->r xs H Q →
    wpAny (model X.prog X.w) X.A (call f us) (EP X pins σ Q) X.xe s
def tOp(r:R2)(ta tb:TE):TE:=λσ H Q=>ta σ H λx H1=>tb σ H1 λy H2=>r x y H2 Q
def tUn(r:V->Hp->VK->Prop)(ta:TE):TE:=λσ H Q=>ta σ H λx H1=>r x H1 Q
inductive rI (C:Int->Int->Prop) (g:Int->Int->V) (x y:V) (H:Hp) (Q:VK):Prop
  | mk (i j:Int) (_:x = .int i) (_:y = .int j) (_:C i j) (_:Q (g i j) H):rI C g x y H Q
inductive rI0 (g:Int->Int->V) (x y:V) (H:Hp) (Q:VK):Prop
  | mk (i j:Int) (_:x = .int i) (_:y = .int j) (_:Q (g i j) H):rI0 g x y H Q
def rU(g:Int->V):V->Hp->VK->Prop:=λx H Q=>∃i,x = .int i/\Q (g i) H
section
variable{X:Cx}{a b c:Expr}{ta tb tc:TE}{pos:Pos}
theorem Zo6(ha:PE X a ta)(hb:PE X b tb){pins:List (Addr×Obj)}{s:Shared}{σ:St}{H:Hp}{R:V->V->Hp->Prop}(I:Inv X pins σ H s)
    (h:ta σ H λx H1=>tb σ H1 λy H2=>R x y H2) {Q:Value->Shared->Prop} {f:Value->Value->Sem Value}
    (hf:∀v u s2 x y H2,Inv X pins σ H2 s2->RelV x v->RelV y u->R x y H2->wpAny (model X.prog X.w) X.A (f v u) Q X.xe s2) :
    wpAny (model X.prog X.w) X.A (eval a X.env) (λv s₁=>wpAny (model X.prog X.w) X.A (eval b X.env) (λu s₂=>wpAny (model X.prog X.w) X.A (f v u) Q X.xe s₂) X.xe s₁) X.xe s:=by
  refine thn (ha pins s σ H _ I h) λv s1 ⟨x,H1,I1,r1,q1⟩=>?_
  refine thn (hb pins s1 σ H1 _ I1 q1) λu s2 ⟨y,H2,I2,r2,q2⟩=>?_
  exact hf v u s2 x y H2 I2 r1 r2 q2
theorem Zal{op:Operator}{r:R2}(ho:OpR X (binaryOp op) r)(ha:PE X a ta)(hb:PE X b tb):PE X (.BinOp a op b pos) (tOp r ta tb):=by
  intro pins s σ H Q I h
  exact wpAny_BinOp (Zo6 ha hb I h λv u s2 x y H2 I2 rx ry q=>ho pins s2 σ H2 x y v u Q I2 rx ry q)
theorem Zf0{op:UnaryOp}{r:V->Hp->VK->Prop}(ho:UnR X (unaryOp op) r)(ha:PE X a ta):PE X (.UnaryOp op a pos) (tUn r ta):=by
  intro pins s σ H Q I h
  exact UnaryOp_ (thn (ha pins s σ H _ I h) λv s1 ⟨x,H1,I1,r1,q1⟩=>ho pins s1 σ H1 x v Q I1 r1 q1)
theorem opI{f:Value->Value->Sem Value}{C:Int->Int->Prop}{g:Int->Int->Int}
    (rule:∀(i j:Int) (t u:Tok) (s:Shared) (Q:Value->Shared->Prop) (E:Value->Shared->Prop),C i j->Q (.int (g i j) s.toks) { s with toks:=s.toks+1 }->wpAny (model X.prog X.w) X.A (f (.int i t) (.int j u)) Q E s) :
    OpR X f (rI C λi j => .int (g i j)):=by
  intro pins s σ H x y v u Q I rx ry h
  obtain ⟨i,j,rfl,rfl,hc,q⟩:=h
  obtain ⟨t,rfl⟩:=rx
  obtain ⟨t',rfl⟩:=ry
  exact rule i j t t' s _ _ hc ⟨.int (g i j),H,I.tok _,⟨_,rfl⟩,q⟩
theorem ZpC{f:Value->Value->Sem Value}{g:Int->Int->Int}
    (rule:∀(i j:Int) (t u:Tok) (s:Shared) (Q:Value->Shared->Prop) (E:Value->Shared->Prop),Q (.int (g i j) s.toks) { s with toks:=s.toks+1 }->wpAny (model X.prog X.w) X.A (f (.int i t) (.int j u)) Q E s) :
    OpR X f (rI0 λi j => .int (g i j)):=by
  intro pins s σ H x y v u Q I rx ry h
  obtain ⟨i,j,rfl,rfl,q⟩:=h
  obtain ⟨t,rfl⟩:=rx
  obtain ⟨t',rfl⟩:=ry
  exact rule i j t t' s _ _ ⟨.int (g i j),H,I.tok _,⟨_,rfl⟩,q⟩
theorem ZoS{f:Value->Value->Sem Value}{g:Int->Int->Bool}
    (rule:∀(i j:Int) (t u:Tok) (s:Shared) (Q:Value->Shared->Prop) (E:Value->Shared->Prop),Q (.bool (g i j)) s->wpAny (model X.prog X.w) X.A (f (.int i t) (.int j u)) Q E s) :
    OpR X f (rI0 λi j => .bl (g i j)):=by
  intro pins s σ H x y v u Q I rx ry h
  obtain ⟨i,j,rfl,rfl,q⟩:=h
  obtain ⟨t,rfl⟩:=rx
  obtain ⟨t',rfl⟩:=ry
  exact rule i j t t' s _ _ ⟨.bl (g i j),H,I,rfl,q⟩
def ZpT(i j:Int):Prop:=0<j/\j<1073741824
def ZpU(i j:Int):Prop:=0<=j/\j<=1000000/\i.natAbs<2^64
def CMul(i j:Int):Prop:=(-(2^64)<i/\i<2^64)\/(-(2^64)<j/\j<2^64)
theorem CMul.ok{i j:Int}(h:CMul i j):IntMulOk i j:=by
  rcases h with ⟨h1,h2⟩ | ⟨h1,h2⟩
  · exact .of_left (intBits_le_64 h1 h2)
  · exact .of_right (intBits_le_64 h1 h2)
theorem Zi0(k:Nat):(0:Int)<=2^k:=by
  rw[two_pow_cast]
  exact Int.natCast_nonneg _
theorem Za6:OpR X (binaryOp .Add) (rI0 λi j => .int (i+j)):=ZpC λ_ _ _ _ _ _ _ q=>add_int q
theorem Zb4:OpR X (binaryOp .Sub) (rI0 λi j => .int (i-j)):=ZpC λ_ _ _ _ _ _ _ q=>sub_int q
theorem Zdo:OpR X (binaryOp .Mult) (rI CMul λi j => .int (i*j)):=opI λ_ _ _ _ _ _ _ hc q=>mul_int q hc.ok
theorem Zhy:OpR X (binaryOp .FloorDiv) (rI ZpT λi j => .int (i/j)):=opI λi j _ _ _ _ _ hc q=>by
  have h1:(0:Int)<j:=hc.1
  have h2:j<1073741824:=hc.2
  exact floordiv_int ⋯ (by rw[Ut i ⋯]; exact q) (.inl (PyProof.noPylong_small ⋯))
theorem Zbp:OpR X (binaryOp .Mod) (rI (λ_ j=>0<j) λi j => .int (i%j)):=opI λi j _ _ _ _ _ hc q=>by
  have h1:(0:Int)<j:=hc
  exact mod_int' ⋯ (by rw[Qy i ⋯]; exact q)
theorem ZaS:OpR X (binaryOp .Mod) (rI (λ_ j=>j≠0) λi j => .int (i.fmod j)):=opI λ_ _ _ _ _ _ _ hc q=>mod_int' hc q
theorem ZjJ:OpR X (binaryOp .Pow) (rI ZpU λi j => .int (i^j.toNat)):=opI λ_ _ _ _ _ _ _ hc q=>pow_int_small hc.1 hc.2.1 hc.2.2 q
theorem Zoc:OpR X (binaryOp .RShift) (rI (λ_ j=>0<=j) λi j => .int (i/2^j.toNat)):=opI λi j _ _ _ _ _ hc q =>
  rshift_int hc (by rw[Ut i (Zi0 _)]; exact q)
theorem unI{f:Value->Sem Value}{g:Int->Int}
    (rule:∀(i:Int) (t:Tok) (s:Shared) (Q:Value->Shared->Prop) (E:Value->Shared->Prop),Q (.int (g i) s.toks) { s with toks:=s.toks+1 }->wpAny (model X.prog X.w) X.A (f (.int i t)) Q E s) :
    UnR X f (rU λi => .int (g i)):=by
  intro pins s σ H x v Q I rx h
  obtain ⟨i,rfl,q⟩:=h
  obtain ⟨t,rfl⟩:=rx
  exact rule i t s _ _ ⟨.int (g i),H,I.tok _,⟨_,rfl⟩,q⟩
theorem ZdN:UnR X (unaryOp .USub) (rU λi => .int (-i)):=unI λ_ _ _ _ _ q=>neg_int q
end
def ZpD:V->V->Bool
  | .non,.non=>true | .non,.int _=>true | .int _,.non=>true | .non,.bl _=>true | .bl _,.non=>true | .non,.str _=>true | .str _,.non=>true
  | .int _,.int _=>true | .bl _,.bl _=>true | .str _,.str _=>true | .byt _,.byt _=>true
  | .int _,.str _=>true | .str _,.int _=>true | .bl _,.str _=>true | .str _,.bl _=>true
  | _,_=>false
def rEq:R2:=λx y H Q=>ZpD x y=true/\Q (.bl (decide (x=y))) H
def rNe:R2:=λx y H Q=>ZpD x y=true/\Q (.bl (!decide (x=y))) H
theorem Zhz{i j:Int}:decide (V.int i=V.int j)=(i==j):=by
  rw[Bool.eq_iff_iff]
  simp
theorem Zmw{i j:Bool}:decide (V.bl i=V.bl j)=(i==j):=by
  rw[Bool.eq_iff_iff]
  simp
theorem ZjK{i j:Str}:decide (V.str i=V.str j)=(i==j):=by
  rw[Bool.eq_iff_iff]
  simp
theorem ZjL{i j:Array UInt8}:decide (V.byt i=V.byt j)=(i.toList==j.toList):=by
  rw[Bool.eq_iff_iff]
  cases i
  cases j
  simp
section
variable{X:Cx}{a b c:Expr}{ta tb tc:TE}{pos:Pos}
theorem ZaK{pins:List (Addr×Obj)}{σ:St}{H:Hp}{s:Shared}{Q:VK}{k k':Bool}(I:Inv X pins σ H s)(q:Q (.bl k) H)(e:k=k'):EP X pins σ Q (.bool k') s:=by
  subst e
  exact ⟨.bl k,H,I,rfl,q⟩
theorem Zbh:OpR X (compareOp .Eq) rEq:=by
  intro pins s σ H x y v u Q I rx ry h
  obtain ⟨hs,q⟩:=h
  cases x with
  | non =>
    cases rx
    cases y with
    | non=>cases ry; exact PySem.EqNone.eq_none_none (ZaK I q (by simp))
    | bl j=>cases ry; exact PySem.EqNone.eq_none_bool (ZaK I q (by simp))
    | int j=>obtain ⟨t',rfl⟩:=ry; exact PySem.EqNone.eq_none_int (ZaK I q (by simp))
    | str j=>obtain ⟨t',rfl⟩:=ry; exact PySem.EqNone.eq_none_str (ZaK I q (by simp))
    | _=>exact absurd (show false=true from hs) Qo
  | bl i =>
    cases rx
    cases y with
    | non=>cases ry; exact PySem.EqNone.eq_bool_none (ZaK I q (by simp))
    | bl j=>cases ry; exact eq_bool (ZaK I q Zmw)
    | str j=>obtain ⟨t',rfl⟩:=ry; exact PySem.EqMixed.eq_bool_str (ZaK I q (by simp))
    | _=>exact absurd (show false=true from hs) Qo
  | int i =>
    obtain ⟨t,rfl⟩:=rx
    cases y with
    | non=>cases ry; exact PySem.EqNone.eq_int_none (ZaK I q (by simp))
    | int j=>obtain ⟨t',rfl⟩:=ry; exact eq_int (ZaK I q Zhz)
    | str j=>obtain ⟨t',rfl⟩:=ry; exact PySem.EqMixed.eq_int_str (ZaK I q (by simp))
    | _=>exact absurd (show false=true from hs) Qo
  | str i =>
    obtain ⟨t,rfl⟩:=rx
    cases y with
    | non=>cases ry; exact PySem.EqNone.eq_str_none (ZaK I q (by simp))
    | bl j=>cases ry; exact PySem.EqMixed.eq_str_bool (ZaK I q (by simp))
    | int j=>obtain ⟨t',rfl⟩:=ry; exact PySem.EqMixed.eq_str_int (ZaK I q (by simp))
    | str j=>obtain ⟨t',rfl⟩:=ry; exact eq_str (ZaK I q ZjK)
    | _=>exact absurd (show false=true from hs) Qo
  | byt i =>
    obtain ⟨t,rfl⟩:=rx
    cases y with
    | byt j=>obtain ⟨t',rfl⟩:=ry; exact PySem.W.eq_bytes (ZaK I q ZjL)
    | _=>exact absurd (show false=true from hs) Qo
  | _=>cases y <;> exact absurd (show false=true from hs) Qo
theorem Zdv:OpR X (compareOp .NotEq) rNe:=by
  intro pins s σ H x y v u Q I rx ry h
  obtain ⟨hs,q⟩:=h
  cases x with
  | non =>
    cases rx
    cases y with
    | non=>cases ry; exact PySem.EqNone.ne_none_none (ZaK I q (by simp))
    | bl j=>cases ry; exact PySem.EqNone.ne_none_bool (ZaK I q (by simp))
    | int j=>obtain ⟨t',rfl⟩:=ry; exact PySem.EqNone.ne_none_int (ZaK I q (by simp))
    | str j=>obtain ⟨t',rfl⟩:=ry; exact PySem.EqNone.ne_none_str (ZaK I q (by simp))
    | _=>exact absurd (show false=true from hs) Qo
  | bl i =>
    cases rx
    cases y with
    | non=>cases ry; exact PySem.EqNone.ne_bool_none (ZaK I q (by simp))
    | bl j=>cases ry; exact ne_bool (ZaK I q (congrArg not Zmw))
    | str j=>obtain ⟨t',rfl⟩:=ry; exact PySem.EqMixed.ne_bool_str (ZaK I q (by simp))
    | _=>exact absurd (show false=true from hs) Qo
  | int i =>
    obtain ⟨t,rfl⟩:=rx
    cases y with
    | non=>cases ry; exact PySem.EqNone.ne_int_none (ZaK I q (by simp))
    | int j=>obtain ⟨t',rfl⟩:=ry; exact ne_int (ZaK I q (congrArg not Zhz))
    | str j=>obtain ⟨t',rfl⟩:=ry; exact PySem.EqMixed.ne_int_str (ZaK I q (by simp))
    | _=>exact absurd (show false=true from hs) Qo
  | str i =>
    obtain ⟨t,rfl⟩:=rx
    cases y with
    | non=>cases ry; exact PySem.EqNone.ne_str_none (ZaK I q (by simp))
    | bl j=>cases ry; exact PySem.EqMixed.ne_str_bool (ZaK I q (by simp))
    | int j=>obtain ⟨t',rfl⟩:=ry; exact PySem.EqMixed.ne_str_int (ZaK I q (by simp))
    | str j=>obtain ⟨t',rfl⟩:=ry; exact ne_str (ZaK I q (congrArg not ZjK))
    | _=>exact absurd (show false=true from hs) Qo
  | byt i =>
    obtain ⟨t,rfl⟩:=rx
    cases y with
    | byt j=>obtain ⟨t',rfl⟩:=ry; exact PySem.W.ne_bytes (ZaK I q (congrArg not ZjL))
    | _=>exact absurd (show false=true from hs) Qo
  | _=>cases y <;> exact absurd (show false=true from hs) Qo
theorem Zca:OpR X (compareOp .Lt) (rI0 λi j => .bl (decide (i<j))):=ZoS λ_ _ _ _ _ _ _ q=>lt_int q
theorem Zlw:OpR X (compareOp .LtE) (rI0 λi j => .bl (decide (i<=j))):=ZoS λ_ _ _ _ _ _ _ q=>le_int q
theorem Zf1:OpR X (compareOp .Gt) (rI0 λi j => .bl (decide (j<i))):=ZoS λ_ _ _ _ _ _ _ q=>gt_int q
theorem Zod:OpR X (compareOp .GtE) (rI0 λi j => .bl (decide (j<=i))):=ZoS λ_ _ _ _ _ _ _ q=>ge_int q
theorem OpR.or{f:Value->Value->Sem Value}{r r':R2}(h:OpR X f r)(h':OpR X f r'):OpR X f (λx y H Q=>r x y H Q\/r' x y H Q):=by
  intro pins s σ H x y v u Q I rx ry q
  rcases q with q | q
  · exact h pins s σ H x y v u Q I rx ry q
  · exact h' pins s σ H x y v u Q I rx ry q
theorem Zap(b:Expr){op:CmpOp}(h:op ≠ .In:=by decide)(h2:op ≠ .NotIn:=by decide):behindInMarks op b=false:=by
  have e1:(op==CmpOp.In)=false:=by cases op <;> first | rfl | exact absurd rfl h
  have e2:(op==CmpOp.NotIn)=false:=by cases op <;> first | rfl | exact absurd rfl h2
  cases b <;> simp[behindInMarks,e1,e2]
theorem ZaM{op:CmpOp}{r:R2}(ho:OpR X (compareOp op) r)(ha:PE X a ta)(hb:PE X b tb)(hm:behindInMarks op b=false):PE X (.Compare a [op] [b] pos) (tOp r ta tb):=by
  intro pins s σ H Q I h
  exact wpAny_Compare1 (Zo6 ha hb I h λv u s2 x y H2 I2 rx ry q=>ho pins s2 σ H2 x y v u Q I2 rx ry q) hm
def Zo7(t:TE):TT:=λσ H Q=>t σ H λx H'=>∃k,x = .bl k/\Q k H'
theorem Zaq{op:CmpOp}{r:R2}(ho:OpR X (compareOp op) r)(ha:PE X a ta)(hb:PE X b tb)(hm:behindInMarks op b=false):PT X (.Compare a [op] [b] pos) (Zo7 (tOp r ta tb)):=by
  intro pins s σ H Q I h
  refine wpAny_isTrue_Compare1 (thn (ha pins s σ H _ I h) λv s1 ⟨x,H1,I1,r1,q1⟩=>thn (hb pins s1 σ H1 _ I1 q1) λu s2 ⟨y,H2,I2,r2,q2⟩ =>
    thn (ho pins s2 σ H2 x y v u _ I2 r1 r2 q2) λc s3 ⟨z,H3,I3,r3,k,e,q3⟩=>?_) hm
  subst e
  cases r3
  exact wpAny_truthy_bool ⟨H3,I3,q3⟩
def Zoe(r r':R2)(ta tb tc:TE):TE:=λσ H Q=>ta σ H λx H1=>tb σ H1 λy H2=>r x y H2 λz H3=>∃k,z = .bl k ∧
  (if k=true then tc σ H3 λw' H4=>r' y w' H4 Q else Q (.bl false) H3)
theorem Zlx{op op':CmpOp}{r r':R2}(ho:OpR X (compareOp op) r)(ho':OpR X (compareOp op') r')(ha:PE X a ta)(hb:PE X b tb)(hc:PE X c tc)
    (hm:lastMarks [op,op'] [b,c]=false:=by with_unfolding_all rfl):PE X (.Compare a [op,op'] [b,c] pos) (Zoe r r' ta tb tc):=by
  intro pins s σ H Q I h
  refine Compare_chain (thn (ha pins s σ H _ I h) λv s1 ⟨x,H1,I1,r1,q1⟩=>chain_link (thn (hb pins s1 σ H1 _ I1 q1) λu s2 ⟨y,H2,I2,r2,q2⟩ =>
    thn (ho pins s2 σ H2 x y v u _ I2 r1 r2 q2) λd s3 ⟨z,H3,I3,r3,k,e,q3⟩=>?_)) hm
  subst e
  cases r3
  refine wpAny_truthy_bool ?_
  cases k with
  | false=>exact ite_ff ⟨.bl false,H3,I3,rfl,q3⟩
  | true=>exact ite_tt (chain_last (thn (hc pins s3 σ H3 _ I3 q3) λw' s4 ⟨z',H4,I4,r4,q4⟩=>ho' pins s4 σ H4 y z' u w' Q I4 r2 r4 q4))
theorem Zis:(sizeLine:Nat)<2^63:=by rw[sizeLine_eq]; decide
theorem Zi1{x:V}{us:List Value}(r:Vals [x] us):∃u,us=[u]/\RelV x u:=by
  cases r with
  | cons r1 r2=>cases r2; exact ⟨_,rfl,r1⟩
theorem Zi2{x y:V}{us:List Value}(r:Vals [x,y] us):∃u w',us=[u,w']/\RelV x u/\RelV y w':=by
  cases r with
  | cons r1 r2 =>
    cases r2 with
    | cons r3 r4=>cases r4; exact ⟨_,_,rfl,r1,r3⟩
theorem ZeE:CallR X (.builtin "abs") (λxs H Q=>∃i,xs=[.int i]/\Q (.int (if i<0 then -i else i)) H):=by
  intro pins s σ H xs us Q I r h
  obtain ⟨i,rfl,q⟩:=h
  obtain ⟨u,rfl,t,rfl⟩:=Zi1 r
  exact call_abs_int λu tk=>⟨.int (if i<0 then -i else i),H,I.tok _,⟨_,rfl⟩,q⟩
theorem ZeU:CallR X (.type "int") (λxs H Q=>(∃i,xs=[.int i]/\Q (.int i) H)\/∃k,xs=[.bl k]/\Q (.int (if k then 1 else 0)) H):=by
  intro pins s σ H xs us Q I r h
  rcases h with ⟨i,rfl,q⟩ | ⟨k,rfl,q⟩
  · obtain ⟨u,rfl,t,rfl⟩:=Zi1 r
    exact call_int_int ⟨.int i,H,I,⟨_,rfl⟩,q⟩
  · obtain ⟨u,rfl,r1⟩:=Zi1 r
    cases r1
    exact call_int_bool ⟨.int (if k then 1 else 0),H,I.tok _,⟨_,rfl⟩,q⟩
end
end L2
namespace L2
open PySem PySem.Spec PyProof.Rows
structure ObjM (h:Heap) (x dx C:Addr) (mA:Str->Option Value):Prop where
  obj:h.get? x=some (PySem.W.instObj C dx)
  ns:h.Ns1 dx mA
  ne:dx≠x
theorem ZeV{h:Heap}{dx:Addr}{mA:Str->Option Value}(n:h.Ns1 dx mA):∃od,h.get? dx=some od/\∀name,PySem.W.lookIn name od=some (mA name):=by
  obtain ⟨o,es,ep,ho,hd,hk,_,hm⟩:=n
  refine ⟨o,ho,λname=>?_⟩
  have e:=hm name
  unfold nsFind findBy at e
  rw[<-Array.find?_toList] at e
  unfold PySem.W.lookIn
  rw[hd]
  dsimp only
  split
  · rename_i y q
    rw[q] at e
    exact congrArg some e
  · rename_i q
    rw[q] at e
    have a:es.toList.any (·.refKey)=false:=by
      rw[List.any_eq_false]
      intro y hy
      obtain ⟨z,t,hkey⟩:=hk y (Array.mem_toList_iff.mp hy)
      simp[DictEntry.refKey,hkey]
    have a':¬es.toList.any (·.refKey)=true:=by rw[a]; exact Qo
    rw[if_neg a']
    exact congrArg some e
theorem ObjM.look{h:Heap}{x dx C:Addr}{mA:Str->Option Value}(I:ObjM h x dx C mA):∃od,PySem.W.InstAt h x (PySem.W.instObj C dx) C (some od)/\∀name,PySem.W.lookIn name od=some (mA name) :=
  let ⟨od,ho,hl⟩:=ZeV I.ns
  ⟨od,⟨I.obj,rfl,rfl,ho⟩,hl⟩
section
variable{prog:Program}{w:World}{A:Around}{E:Value->Shared->Prop}{s:Shared}{K:PySem.W.Frag}{x dx C f:Addr}{mA:Str->Option Value}{name:Str}{v:Value}
theorem ZmW{expr:Bool}{Q:Value->Shared->Prop}(X:K.In s.heap)(I:ObjM s.heap x dx C mA)(hg:PySem.W.plainGet K C name=true)(hh:PySem.W.hasDictIn K C=true)
    (ha:PySem.W.findIn K (.ref C) name=some none) (hv:mA name=some v) (hv':PySem.W.handedIn v=true) (h:Q v { s with toks:=s.toks+1 }) :
    wpAny (model prog w) A (getAttr (.ref x) name expr) Q E s:=by
  obtain ⟨od,J,hl⟩:=I.look
  exact PySem.W.get_value X J (PySem.W.plainGet_of hg).1 (PySem.W.findObj_own hh ha rfl (by rw[hl,hv])) hv' h
theorem Zly{pl:Sem Bool}{Q:Value×List Value->Shared->Prop}(X:K.In s.heap)(I:ObjM s.heap x dx C mA)(hg:PySem.W.plainGet K C name=true)
    (hf:PySem.W.findIn K (.ref C) name=some (some (.ref f))) (ht:PySem.W.isFn K (.ref f)=true) (hv:mA name=none) (h:Q (.ref f,[.ref x]) s) :
    wpAny (model prog w) A (getMethod (.ref x) name pl) Q E s:=by
  obtain ⟨od,J,hl⟩:=I.look
  exact PySem.W.method_fn X J (PySem.W.plainGet_of hg).1 (PySem.W.plainGet_of hg).2 hf (beq_iff_eq.mp ht) (by show (PySem.W.lookIn name od).map (·.isSome)=some false; rw[hl,hv]; rfl) h
theorem ZmX{ns:List Str}{Q:Unit->Shared->Prop}(X:K.In s.heap)(I:ObjM s.heap x dx C mA)
    (hs:PySem.W.findIn K (.ref C) "__setattr__" = some (some (.builtin "object.__setattr__"))) (hp:PySem.W.plainOver K C=true) (ht:PySem.W.takerIn K C name=some none) (hh:PySem.W.hasDictIn K C=true)
    (hw:PySem.Within mA ns) (hsz:ns.length<=sizeLine)
    (h:∀h',ObjM h' x dx C (λy=>if y=name then some v else mA y)->Heap.SameBut dx s.heap h'->Q () { s with heap:=h',toks:=s.toks+2 }) :
    wpAny (model prog w) A (setAttr (.ref x) name v) Q E s:=by
  obtain ⟨od,J,hl⟩:=I.look
  refine PySem.W.set_plain X J hs (PySem.W.osa_open (s:={ s with toks:=s.toks+1 }) (r:=none) X J hp ht λb=>?_)
  obtain ⟨cd,hc,hd'⟩:=PySem.W.any_some hh
  have hx:s.heap.get? x=some ⟨.ref C,some dx,.plain,#[]⟩:=I.obj
  refine wpAny_bind (wpAny_pure (wpAny_bind (wpAny_bind (wpAny_loadPart hx (wpAny_bind (PySem.W.Looks.here (s:={ s with toks:=s.toks+1 }) (PySem.W.looks_clsIn X hc) ?_))))))
  rw[hd']
  refine wpAny_pure (a:=some dx) (wpAny_bind (wpAny_pure (wpAny_bind ?_)))
  refine wpAny_nsSet1 (s:={ s with toks:=s.toks+1 }) I.ns λh' hn2 hs2=>?_
  obtain ⟨oD,esD,epD,hoD,hdD,hcD⟩:=hn2.count (PySem.Within.cons name v hw)
  refine wpAny_bind (wpAny_lookBehind hoD (by rw[hdD]; exact pastItsLine_dict (Q0 hcD (by rw[U3]; omega))) ?_)
  exact wpAny_pure (h _ ⟨(hs2.2 _ (Ne.symm I.ne)).trans I.obj,hn2,I.ne⟩ hs2)
theorem Zlz{R:Result->Shared->Prop}{vs:List Value}{kw:List (Str×Value)}(X:K.In s.heap)(hm:PySem.W.makesIn K C=true)
    (hi:PySem.W.findIn K (.ref C) "__init__" = some (some (.ref f))) (hf:PySem.W.typeIn K (.ref f)=some (.type "function"))
    (h:codeAny (model prog w) (A.under (.builtin "type.__call__" ⟨.ref C::vs,kw⟩)) (.call (.ref f) ⟨.ref (s.heap.objs.size+1)::vs,kw⟩) (PySem.W.InitBack (s.heap.objs.size+1) R)
      { s with heap:=(s.heap.push PySem.W.emptyDict).push (PySem.W.instObj C s.heap.objs.size) }) :
    codeAny (model prog w) A (.call (.ref C) ⟨vs,kw⟩) R s:=by
  obtain ⟨hh,g,d,t,os⟩:=s
  exact PySem.W.make_core (PySem.W.makes_of X hm) (PySem.W.looks_findIn X hi) (λself=>PySem.W.bind_fn X self hf) (.inl rfl) h
theorem ZjM{R:Result->Shared->Prop}(X:K.In s.heap)(hm:PySem.W.makesIn K C=true)
    (hi:PySem.W.findIn K (.ref C) "__init__" = some (some (.builtin "object.__init__")))
    (hb:∀self,PySem.W.Looks (model prog w) s.heap (bindSpecial (.builtin "object.__init__") self) (.builtin "object.__init__", [self]))
    (h:codeAny (model prog w) (A.under (.builtin "type.__call__" ⟨[.ref C],[]⟩)) (.call (.builtin "object.__init__") ⟨[.ref (s.heap.objs.size+1)],[]⟩) (PySem.W.InitBack (s.heap.objs.size+1) R)
      { s with heap:=(s.heap.push PySem.W.emptyDict).push (PySem.W.instObj C s.heap.objs.size) }) :
    codeAny (model prog w) A (.call (.ref C) ⟨[],[]⟩) R s:=by
  obtain ⟨hh,g,d,t,os⟩:=s
  exact PySem.W.make_core (PySem.W.makes_of X hm) (PySem.W.looks_findIn X hi) hb (.inr ⟨rfl,rfl⟩) h
end
def ZgU(f:Str)(v:V):List (Str×V)->List (Str×V)
  | []=>[(f,v)]
  | (g,x)::r=>if g=f then (g,v)::r else (g,x)::ZgU f v r
theorem Zco(f g:Str)(v:V):∀fs:List (Str×V),(ZgU f v fs).lookup g=if g=f then some v else fs.lookup g
  | []=>by
    show List.lookup g [(f,v)]=_
    by_cases h:g=f
    · have hb:(g==f)=true:=beq_iff_eq.mpr h
      simp only[List.lookup,hb,if_pos h]
    · have hb:(g==f)=false:=beq_eq_false_iff_ne.mpr h
      simp only[List.lookup,hb,if_neg h]
  | (k,x)::r=>by
    have ih:=Zco f g v r
    rw[show ZgU f v ((k,x)::r)=(if k=f then (k,v)::r else (k,x)::ZgU f v r) from rfl]
    by_cases hk:k=f
    · rw[if_pos hk]
      by_cases h:g=k
      · have hb:(g==k)=true:=beq_iff_eq.mpr h
        simp only[List.lookup,hb,if_pos (h.trans hk)]
      · have hb:(g==k)=false:=beq_eq_false_iff_ne.mpr h
        simp only[List.lookup,hb,if_neg (λe:g=f=>h (e.trans hk.symm))]
    · rw[if_neg hk]
      by_cases h:g=k
      · have hb:(g==k)=true:=beq_iff_eq.mpr h
        simp only[List.lookup,hb,if_neg (λe:g=f=>hk (h.symm.trans e))]
      · have hb:(g==k)=false:=beq_eq_false_iff_ne.mpr h
        simp only[List.lookup,hb]
        exact ih
theorem ZeW(f:Str)(v:V):∀fs:List (Str×V),f∈(ZgU f v fs).map (·.1)/\∀g,g∈fs.map (·.1)->g∈(ZgU f v fs).map (·.1)
  | []=>⟨by simp[ZgU],λg h=>by simp at h⟩
  | (k,x)::r=>by
    obtain ⟨i1,i2⟩:=ZeW f v r
    rw[show ZgU f v ((k,x)::r)=(if k=f then (k,v)::r else (k,x)::ZgU f v r) from rfl]
    by_cases hk:k=f
    · rw[if_pos hk]
      subst hk
      exact ⟨by simp,λg h=>by simpa using h⟩
    · rw[if_neg hk]
      refine ⟨?_,λg h=>?_⟩
      · rw[Ww]
        exact W3 _ i1
      · rw[Ww] at h ⊢
        rcases Q8.mp h with e | e
        · exact Q8.mpr (.inl e)
        · exact W3 _ (i2 g e)
theorem ZeX(f:Str)(v:V):∀fs:List (Str×V),(ZgU f v fs).length<=fs.length+1
  | []=>by simp[ZgU]
  | (k,x)::r=>by
    have ih:=ZeX f v r
    rw[show ZgU f v ((k,x)::r)=(if k=f then (k,v)::r else (k,x)::ZgU f v r) from rfl]
    by_cases hk:k=f
    · rw[if_pos hk,U3,U3]; omega
    · rw[if_neg hk,U3,U3]; omega
theorem RelO.some_of{v:V}{o:Option Value}(r:RelO (some v) o):∃u,o=some u/\RelV v u:=by
  cases o with
  | none=>exact (show False from r).elim
  | some u=>exact ⟨u,rfl,r⟩
theorem RelO.none_of{o:Option Value}(r:RelO none o):o=none:=by
  cases o with
  | none=>rfl
  | some u=>exact (show False from r).elim
theorem ZgV{v:V}{u:Value}(r:RelV v u):PySem.W.handedIn u=true:=by
  cases v with
  | non=>cases (show u=Value.none from r); rfl
  | bl b=>cases (show u=Value.bool b from r); rfl
  | int i=>obtain ⟨t,e⟩:=(show ∃t,u=Value.int i t from r); cases e; rfl
  | str x=>obtain ⟨t,e⟩:=(show ∃t,u=Value.str x t from r); cases e; rfl
  | byt b=>obtain ⟨t,e⟩:=(show ∃t,u=Value.bytes b t from r); cases e; rfl
  | flt b=>obtain ⟨t,e⟩:=(show ∃t,u=Value.float b t from r); cases e; rfl
  | ref a=>cases (show u=Value.ref a from r); rfl
  | ty n=>cases (show u=Value.type n from r); rfl
section
variable{P:Program}{w:World}{H H':Hp}{h h':Heap}{a C dx:Addr}{fs fs':List (Str×V)}
theorem ZeY(hok:HOk P w H h)(e:H a=some (.ins C dx fs)):∃mA,ObjM h a dx C mA/\(∀f,RelO (fs.lookup f) (mA f))/\PySem.Within mA (fs.map (·.1))/\fs.length<=1000/\H dx=some (.own a):=by
  obtain ⟨d,z,ne,ob,mA,n,r,q⟩:=(show ObjOk P w H h a (.ins C dx fs) from hok a _ e)
  exact ⟨mA,⟨ob,n,ne⟩,r,q,z,d⟩
end
structure Cls (K:PySem.W.Frag) (C:Addr):Prop where
  pg:PySem.W.plainGet K C Str.empty=true
  hd:PySem.W.hasDictIn K C=true
  po:PySem.W.plainOver K C=true
  sa:PySem.W.findIn K (.ref C) "__setattr__" = some (some (.builtin "object.__setattr__"))
theorem Cls.get{K:PySem.W.Frag}{C:Addr}(c:Cls K C)(f:Str):PySem.W.plainGet K C f=true:=c.pg
def NoAttr(K:PySem.W.Frag)(C:Addr)(f:Str):Prop:=PySem.W.findIn K (.ref C) f=some none
theorem NoAttr.taker{K:PySem.W.Frag}{C:Addr}{f:Str}(n:NoAttr K C f):PySem.W.takerIn K C f=some none:=by
  unfold PySem.W.takerIn
  rw[show PySem.W.findIn K (.ref C) f=some none from n]
  rfl
structure Con (K:PySem.W.Frag) (C:Addr) (f:Str) (v:V) (u:Value):Prop where
  at_:PySem.W.findIn K (.ref C) f=some (some u)
  rel:RelV v u
  get:PySem.W.specialIn K u "__get__" = some none
  cp:PySem.W.copiedNames.contains f=false
structure Meth (K:PySem.W.Frag) (C:Addr) (m:Str) (f:Addr):Prop where
  at_:PySem.W.findIn K (.ref C) m=some (some (.ref f))
  fn:PySem.W.isFn K (.ref f)=true
  kp:PySem.W.keepIn K (.ref f)=true
section
variable{X:Cx}{pins:List (Addr×Obj)}{σ:St}{H:Hp}{s:Shared}{a C dx:Addr}{fs:List (Str×V)}{f:Str}{v:V}{A:Around}{E:Value->Shared->Prop}
theorem Zi3{b:Bool}{Q:Value->Shared->Prop}(I:Inv X pins σ H s)(e:H a=some (.ins C dx fs))(c:Cls X.K C)(n:NoAttr X.K C f)(l:fs.lookup f=some v)
    (h:∀u s',Inv X pins σ H s'->RelV v u->Q u s'):wpAny (model X.prog X.w) A (getAttr (.ref a) f b) Q E s:=by
  obtain ⟨mA,O,r,_,_,_⟩:=ZeY I.hok e
  obtain ⟨u,hu,ru⟩:=RelO.some_of (v:=v) (o:=mA f) (by rw[<-l]; exact r f)
  exact ZmW I.kIn O (c.get f) c.hd n hu (ZgV ru) (h u _ (I.tok _) ru)
theorem ZfQ{m:Str}{g:Addr}{pl:Sem Bool}{Q:Value×List Value->Shared->Prop}(I:Inv X pins σ H s)(e:H a=some (.ins C dx fs))(c:Cls X.K C)(k:Meth X.K C m g)(l:fs.lookup m=none)
    (h:Q (.ref g,[.ref a]) s):wpAny (model X.prog X.w) A (getMethod (.ref a) m pl) Q E s:=by
  obtain ⟨mA,O,r,_,_,_⟩:=ZeY I.hok e
  have hn:mA m=none:=RelO.none_of (by rw[<-l]; exact r m)
  exact Zly I.kIn O (c.get m) k.at_ k.fn hn h
theorem Zi4{y:V}{u:Value}{Q:Unit->Shared->Prop}(I:Inv X pins σ H s)(e:H a=some (.ins C dx fs))(c:Cls X.K C)(n:NoAttr X.K C f)(hl:fs.length<1000)(ry:RelV y u)
    (h:∀s',Inv X pins σ (upd H a (.ins C dx (ZgU f y fs))) s'->Q () s'):wpAny (model X.prog X.w) A (setAttr (.ref a) f u) Q E s:=by
  obtain ⟨mA,O,r,wi,_,ho⟩:=ZeY I.hok e
  have hz:(fs.map (·.1)).length<=sizeLine:=by rw[Q1,sizeLine_eq]; omega
  refine ZmX I.kIn O c.sa c.po n.taker c.hd wi hz λh' O' sb=>h _ ?_
  have hd:∃o,h'.get? dx=some o:=let ⟨o,_,_,e',_⟩:=O'.ns; ⟨o,e'⟩
  refine I.write (x:=a) (e:=dx) (by rw[e]; exact True.intro) (.inr ho) (λb q hb z=>(sb.2 b hb).trans z) hd ?_
  refine ⟨by rw[Zas O.ne]; exact ho,?_,O.ne,O'.obj,_,O'.ns,λg=>?_,λg hg=>?_⟩
  · have:=ZeX f y fs; omega
  · show RelO ((ZgU f y fs).lookup g) (if g=f then some u else mA g)
    rw[Zco]
    by_cases q:g=f
    · rw[if_pos q,if_pos q]; exact ry
    · rw[if_neg q,if_neg q]; exact r g
  · by_cases q:g=f
    · rw[q]; exact (ZeW f y fs).1
    · refine (ZeW f y fs).2 g (wi g λz=>hg ?_)
      show (if g=f then some u else mA g)=none
      rw[if_neg q]; exact z
theorem Inv.made(I:Inv X pins σ H s):Inv X pins σ (upd (upd H s.heap.objs.size (.own (s.heap.objs.size+1))) (s.heap.objs.size+1) (.ins C s.heap.objs.size []))
    { s with heap:=(s.heap.push PySem.W.emptyDict).push (PySem.W.instObj C s.heap.objs.size) }:=by
  have e1:(s.heap.push PySem.W.emptyDict).get? s.heap.objs.size=some PySem.W.emptyDict:=Heap.get?_push_size s.heap rfl
  have e2:((s.heap.push PySem.W.emptyDict).push (PySem.W.instObj C s.heap.objs.size)).get? (s.heap.objs.size+1)=some (PySem.W.instObj C s.heap.objs.size):=by
    have:=Heap.get?_push_size (s.heap.push PySem.W.emptyDict) (o:=PySem.W.instObj C s.heap.objs.size) rfl
    rwa [Heap.size_push] at this
  have e3:(s.heap.push PySem.W.emptyDict).Ns s.heap.objs.size (λ_=>none):=⟨PySem.W.emptyDict,#[],_,e1,rfl,(λe he=>absurd he (by simp)),λ_=>rfl⟩
  have I1:=I.laid (a:=s.heap.objs.size) (o:=.own (s.heap.objs.size+1)) (h':=s.heap.push PySem.W.emptyDict) (t':=s.toks) (λb u q=>Heap.get?_push_of_some _ q) (Q4 _) ⟨_,e1⟩
  refine I1.laid (a:=s.heap.objs.size+1) (o:=.ins C s.heap.objs.size []) (t':=s.toks) (λb u q=>Heap.get?_push_of_some _ q) (Wx (Heap.size_push _ _)) ?_
  have ne:s.heap.objs.size≠s.heap.objs.size+1:=Qb (Ue _)
  refine ⟨by rw[Zas ne,Zaf],Qk _,ne,e2,λ_=>none,(Heap.Ns1.of_empty e3).at λo q=>Heap.get?_push_of_some _ q,λ_=>True.intro,λy hy=>absurd rfl hy⟩
theorem ZjN{prog:Program}{w:World}{env:Env}{e:Expr}{f:Str}{pos:Pos}{s:Shared}{Q:Value->Shared->Prop}(hb:attributeBase e f env (eval e env)=eval e env)
    (h:wpAny (model prog w) A (eval e env) (λo s₁=>wpAny (model prog w) A (getAttr o f true) Q E s₁) E s):wpAny (model prog w) A (eval (.Attribute e f pos) env) Q E s :=
  Attribute_any_ h (by rw[arm_eval_Attribute,hb])
end
def ZpV(K:PySem.W.Frag)(ta:TE)(f:Str):TE:=λσ H Q=>ta σ H λx H1=>∃a C dx fs v,x = .ref a/\H1 a=some (.ins C dx fs)/\Cls K C/\NoAttr K C f/\fs.lookup f=some v/\Q v H1
def ZpW(K:PySem.W.Frag)(ta tv:TE)(f:Str):TS:=λD σ H=>tv σ H λy H1=>ta σ H1 λx H2=>∃a C dx fs,x = .ref a/\H2 a=some (.ins C dx fs)/\Cls K C/\NoAttr K C f/\fs.length<1000 ∧
  D.nx σ (upd H2 a (.ins C dx (ZgU f y fs)))
section
variable{X:Cx}{o e value:Expr}{f:Str}{pos pos' tpos:Pos}{ta tv:TE}
theorem ZeZ(he:PE X e ta)(hb:attributeBase e f X.env (eval e X.env)=eval e X.env):PE X (.Attribute e f pos) (ZpV X.K ta f):=by
  intro pins s σ H Q I h
  refine ZjN hb (thn (he pins s σ H _ I h) λu s1 ⟨x,H1,I1,rx,a,C,dx,fs,v,ex,ea,c,n,l,q⟩=>?_)
  subst ex
  obtain rfl:u=Value.ref a:=rx
  exact Zi3 I1 ea c n l λu' s2 I2 ru=>⟨v,H1,I2,ru,q⟩
theorem Zof(ha:PE X o ta)(hv:PE X value tv)(hs:swapsWith value (some (.Attribute o f pos')) pos.line X.env=pure false):PS X (.Assign [.Attribute o f pos'] value pos) (ZpW X.K ta tv f):=by
  intro pins s σ H D I h
  refine plainObj_wpAny_Assign_Attribute (thn (hv pins s σ H _ I h) λu s1 ⟨y,H1,I1,ry,q⟩=>thn (ha pins s1 σ H1 _ I1 q) λov s2 ⟨x,H2,I2,rx,a,C,dx,fs,ex,ea,c,n,l,q2⟩=>?_) hs
  subst ex
  obtain rfl:ov=Value.ref a:=rx
  exact Zi4 I2 ea c n l ry λs3 I3=>⟨σ,_,I3,q2⟩
end
section
variable{X:Cx}{pins:List (Addr×Obj)}{σ:St}{H:Hp}{s:Shared}{A:Around}{E:Value->Shared->Prop}{Q:Value->Shared->Prop}{c:Value}{b:Bool}
inductive Zit (K:PySem.W.Frag) (H:Hp):V->Value->Prop where
  | non:Zit K H .non (.type "NoneType")
  | bl (x:Bool):Zit K H (.bl x) (.type "bool")
  | int (i:Int):Zit K H (.int i) (.type "int")
  | str (x:Str):Zit K H (.str x) (.type "str")
  | flt (x:UInt64):Zit K H (.flt x) (.type "float")
  | lst {a:Addr} {xs:List V} (e:H a=some (.lst xs)):Zit K H (.ref a) (.type "list")
  | frz {a:Addr} {o:Obj} {xs:List V} (e:H a=some (.frz o (.lst xs))):Zit K H (.ref a) (.type "list")
  | tup {a:Addr} {xs:List V} (e:H a=some (.tup xs)):Zit K H (.ref a) (.type "tuple")
  | dK {a:Addr} {kvs:List (Key×V)} (e:H a=some (.dK kvs)):Zit K H (.ref a) (.type "dict")
  | dT {a:Addr} {kvs:List (List Key×V)} (e:H a=some (.dT kvs)):Zit K H (.ref a) (.type "dict")
  | ins {a C dx:Addr} {fs:List (Str×V)} (e:H a=some (.ins C dx fs)) (cl:Cls K C) (ha:PySem.W.findIn K (.ref C) "__class__" = some (some (.builtin "object.__class__")))
      (hn:PySem.W.specialIn K (.builtin "object.__class__") "__get__" = some (some (.builtin "getset_descriptor.__get__"))) (htk:PySem.W.takesIn K (.builtin "object.__class__")=some true)
      (hm:PySem.W.mroIn K C (.type "object")=some true):Zit K H (.ref a) (.ref C)
theorem ZjO{x:V}{u t:Value}(I:Inv X pins σ H s)(rx:RelV x u)(ty:Zit X.K H x t)(e:PySem.W.kitOne X.K t c=some b)(h:∀tk,Q (.bool b) { s with toks:=tk }) :
    wpAny (model X.prog X.w) A (call (.builtin "isinstance") [u,c]) Q E s:=by
  cases ty with
  | non=>cases (show u=Value.none from rx); exact PySem.W.kia_one PySem.W.kitx_none I.kIn True.intro e (λz=>nomatch z) h
  | bl y=>cases (show u=Value.bool y from rx); exact PySem.W.kia_one PySem.W.kitx_bool I.kIn True.intro e (λz=>nomatch z) h
  | int i=>obtain ⟨t,q⟩:=(show ∃t,u=Value.int i t from rx); cases q; exact PySem.W.kia_one PySem.W.kitx_int I.kIn True.intro e (λz=>nomatch z) h
  | str y=>obtain ⟨t,q⟩:=(show ∃t,u=Value.str y t from rx); cases q; exact PySem.W.kia_one PySem.W.kitx_str I.kIn True.intro e (λz=>nomatch z) h
  | flt y=>obtain ⟨t,q⟩:=(show ∃t,u=Value.float y t from rx); cases q; exact PySem.W.kia_one PySem.W.kitx_float I.kIn True.intro e (λz=>nomatch z) h
  | @lst a xs ea =>
    cases (show u=Value.ref a from rx)
    obtain ⟨_,_,n,_,h1⟩:=(show ObjOk X.prog X.w H s.heap a (.lst xs) from I.hok a _ ea)
    exact PySem.W.kia_one PySem.W.kitx_list I.kIn ⟨_,h1,rfl⟩ e (λz=>nomatch z) h
  | @frz a ob xs ea =>
    cases (show u=Value.ref a from rx)
    obtain ⟨_,_,_,n,_,h1⟩:=(show ObjOk X.prog X.w H s.heap a (.frz ob (.lst xs)) from I.hok a _ ea)
    exact PySem.W.kia_one PySem.W.kitx_list I.kIn ⟨_,h1,rfl⟩ e (λz=>nomatch z) h
  | @tup a xs ea =>
    cases (show u=Value.ref a from rx)
    obtain ⟨_,_,_,p⟩:=(show ObjOk X.prog X.w H s.heap a (.tup xs) from I.hok a _ ea)
    obtain ⟨o,h1,h2,_⟩:=p
    exact PySem.W.kia_one PySem.W.kitx_tuple I.kIn ⟨o,h1,h2⟩ e (λz=>nomatch z) h
  | @dK a kvs ea =>
    cases (show u=Value.ref a from rx)
    obtain ⟨_,_,vs,_,p⟩:=(show ObjOk X.prog X.w H s.heap a (.dK kvs) from I.hok a _ ea)
    obtain ⟨o,es,ep,h1,h2,_⟩:=p
    exact PySem.W.kia_one PySem.W.kitx_dict I.kIn ⟨o,h1,h2.1⟩ e (λz=>nomatch z) h
  | @dT a kvs ea =>
    cases (show u=Value.ref a from rx)
    obtain ⟨_,_,xs,_,o,es,ep,h1,h2,_⟩:=(show ObjOk X.prog X.w H s.heap a (.dT kvs) from I.hok a _ ea)
    exact PySem.W.kia_one PySem.W.kitx_dict I.kIn ⟨o,h1,h2.1⟩ e (λz=>nomatch z) h
  | @ins a C dx fs ea cl ha hn htk hm =>
    cases (show u=Value.ref a from rx)
    obtain ⟨mA,O,_⟩:=ZeY I.hok ea
    obtain ⟨od,J,_⟩:=O.look
    exact PySem.W.kia_one (PySem.W.kitx_own (cl.get _) cl.hd ha hn htk hm) I.kIn J e (λz=>nomatch z) h
end
end L2
namespace L2
open PySem PySem.Spec PyProof.Rows
structure Room (k:Nat) (A:Around):Prop where
  hd:A.handled=none
  dp:A.depth+3*k+5<recursionLimit
  un:A.units+16*k+200<cLine
theorem Room.mono{j k:Nat}{A:Around}(r:Room k A)(h:j<=k):Room j A:=⟨r.hd,by have:=r.dp; omega,by have:=r.un; omega⟩
theorem Room.deeper{k:Nat}{A:Around}(r:Room (k+1) A)(env:Env):Room k (A.deeper env) :=
  ⟨r.hd,by have:=r.dp; show A.depth+1+3*k+5<_; omega,by have:=r.un; show A.units+3+16*k+200<_; omega⟩
theorem Room.in1{k:Nat}{A:Around}(r:Room (k+1) A):Room k A.in1 :=
  ⟨r.hd,by have:=r.dp; show A.depth+3*k+5<_; omega,by have:=r.un; show A.units+1+16*k+200<_; omega⟩
theorem Zi5{A:Around}{C:Addr}{us:List Value}{kw:List (Str×Value)}:(A.under (.builtin "type.__call__" ⟨.ref C::us,kw⟩)).depth=A.depth+1:=by
  first | rfl | simp[Around.under,Code.weight,Code.isCreation,Code.isGuard,Code.isCaller,Code.frames,Code.isFrame,guardIds]
theorem Zi6{A:Around}{C:Addr}{us:List Value}{kw:List (Str×Value)}:(A.under (.builtin "type.__call__" ⟨.ref C::us,kw⟩)).units=A.units+1:=by
  first | rfl | simp[Around.under,Code.cUnits,Code.frames,Code.isFrame]
theorem Room.make{k:Nat}{A:Around}(r:Room (k+1) A)(C:Addr)(us:List Value)(kw:List (Str×Value)):Room k (A.under (.builtin "type.__call__" ⟨.ref C::us,kw⟩)) :=
  ⟨r.hd,by have:=r.dp; rw[Zi5]; omega,by have:=r.un; rw[Zi6]; omega⟩
theorem Room.depth{k:Nat}{A:Around}(r:Room k A):A.depth<recursionLimit:=by have:=r.dp; omega
theorem Room.units{k:Nat}{A:Around}(r:Room k A):A.units+64<cLine:=by have:=r.un; omega
def ZpX:TA:=λ_ H Q=>Q [] H
def Zo8(ta:TE)(tr:TA):TA:=λσ H Q=>ta σ H λx H1=>tr σ H1 λxs H2=>Q (x::xs) H2
section
variable{X:Cx}{e:Expr}{es:List Expr}{te:TE}{t:TA}{pos:Pos}
theorem Zac:PA X [] ZpX:=λ_ _ _ _ H Q I h=>Calls.spliced_nil ⟨[],H,I,.nil,h⟩
theorem Zaa(ha:PE X e te)(hr:PA X es t)(hs:starEach (e::es) X.env=(false,eval e X.env)::starEach es X.env:=by rfl):PA X (e::es) (Zo8 te t):=by
  intro pos pins s σ H Q I h
  rw[hs]
  show wpAny _ _ (spliced ((false,eval e X.env)::backTo pos (starEach es X.env))) _ _ s
  refine Calls.spliced_cons (thn (ha pins s σ H _ I h) λu s1 ⟨x,H1,I1,r1,q1⟩=>?_)
  exact thn (hr pos pins s1 σ H1 _ I1 q1) λus s2 ⟨xs,H2,I2,r2,q2⟩=>⟨x::xs,H2,I2,.cons r1 r2,q2⟩
def ZpY(t:TA):TE:=λσ H Q=>t σ H λxs H1=>xs.length<=sizeLine/\∀p,H1 p=none->Q (.ref p) (upd H1 p (.tup xs))
def ZpZ(t:TA):TE:=λσ H Q=>t σ H λxs H1=>xs.length<=sizeLine/\∀p,H1 p=none->Q (.ref p) (upd H1 p (.lst xs))
theorem ZaY{x1}(h:PA X es t):PE X (.Tuple es x1 pos) (ZpY t):=by
  intro pins s σ H Q I hq
  refine wpAny_Tuple_spliced (thn (h pos pins s σ H _ I hq) λus s1 ⟨xs,H1,I1,r,z,q⟩=>⟨by rw[<-r.length]; exact z,?_⟩)
  have hf:H1 s1.heap.objs.size=none:=I1.hok.fresh (Q4 _)
  refine ⟨.ref s1.heap.objs.size,upd H1 s1.heap.objs.size (.tup xs),I1.laid (t':=s1.toks) (λb u e=>Heap.get?_push_of_some _ e) (Q4 _) ?_,rfl,q _ hf⟩
  exact ⟨z,us,r,⟨_,Heap.get?_push_size _ rfl,rfl,_,rfl⟩⟩
theorem Zdp(h:PA X es t):PE X (.List es pos) (ZpZ t):=by
  intro pins s σ H Q I hq
  refine wpAny_List_spliced (thn (h pos pins s σ H _ I hq) λus s1 ⟨xs,H1,I1,r,z,q⟩=>⟨by rw[<-r.length]; exact z,?_⟩)
  have hf:H1 s1.heap.objs.size=none:=I1.hok.fresh (Q4 _)
  refine ⟨.ref s1.heap.objs.size,upd H1 s1.heap.objs.size (.lst xs),I1.laid (t':=s1.toks) (λb u e=>Heap.get?_push_of_some _ e) (Q4 _) ?_,rfl,q _ hf⟩
  exact ⟨z,us,0,r,Heap.get?_push_size _ rfl⟩
end
abbrev Sp:=List V->Hp->VK->XK->Prop
abbrev CXT:=List Env->Hp->Shared->XK->Value->Shared->Prop
structure Env0 (P:Program) (w:World) (K:PySem.W.Frag) (mg:Str->Option Value) (base:Heap) (A:Around) (outer:List Env) (s:Shared) (H:Hp):Prop where
  frames:A.frames=some outer
  mod:Mod K mg base
  bs:∀b o,base.get? b=some o->s.heap.get? b=some o/\H b=none
  bsz:base.objs.size<=s.heap.objs.size
  funs:s.heap.FunFrames base outer
  frf:∀b∈frs outer,H b=none
  hok:HOk P w H s.heap
  bare:AllBare s.gens
def CE(outer:List Env)(P:Program)(w:World)(H:Hp)(s:Shared)(Q:VK)(u:Value)(s':Shared):Prop :=
  ∃v H',s'.os=s.os/\AllBare s'.gens/\Un (frs outer) [] H H' s.heap s'.heap/\HOk P w H' s'.heap/\RelV v u/\Q v H'
def CR(CX:CXT)(outer:List Env)(P:Program)(w:World)(H:Hp)(s:Shared)(Q:VK)(E:XK)(r:Result)(s':Shared):Prop :=
  match r with
  | .ok (.ret u)=>CE outer P w H s Q u s'
  | .ok _=>False
  | .error e=>CX outer H s E e s'
structure FnOk (P:Program) (w:World) (K:PySem.W.Frag) (mg:Str->Option Value) (base:Heap) (CX:CXT) (k:Nat) (f:Addr) (fd:FuncData) (ps:List Str) (sp:Sp):Prop where
  len:∀vs H Q E,sp vs H Q E->vs.length=ps.length
  run:∀(A:Around) (outer:List Env) (s:Shared) (H:Hp) (args:Args) (us:List Value) (vs:List V) (Q:VK) (E:XK),Room k A->Env0 P w K mg base A outer s H->BindsTo s fd args (ps.zip us)->Vals vs us->sp vs H Q E →
    codeAny (model P w) A (.call (.ref f) args) (CR CX outer P w H s Q E) s
theorem FnOk.mono{P:Program}{w:World}{K:PySem.W.Frag}{mg:Str->Option Value}{base:Heap}{CX:CXT}{j k:Nat}{f:Addr}{fd:FuncData}{ps:List Str}{sp:Sp}(F:FnOk P w K mg base CX j f fd ps sp)(h:j<=k) :
    FnOk P w K mg base CX k f fd ps sp:=⟨F.len,λA outer s H args us vs Q E hr=>F.run A outer s H args us vs Q E (hr.mono h)⟩
theorem Env0.make{P:Program}{w:World}{K:PySem.W.Frag}{mg:Str->Option Value}{base:Heap}{A:Around}{outer:List Env}{s:Shared}{H:Hp}(e:Env0 P w K mg base A outer s H)(C:Addr)(us:List Value)(kw:List (Str×Value)) :
    Env0 P w K mg base (A.under (.builtin "type.__call__" ⟨.ref C::us,kw⟩)) outer s H:=⟨by first | exact e.frames | (simpa [Around.under,Code.envs,Code.isFrame,pushEnvs] using e.frames),e.mod,e.bs,e.bsz,e.funs,e.frf,e.hok,e.bare⟩
theorem Env0.in1{P:Program}{w:World}{K:PySem.W.Frag}{mg:Str->Option Value}{base:Heap}{A:Around}{outer:List Env}{s:Shared}{H:Hp}(e:Env0 P w K mg base A outer s H) :
    Env0 P w K mg base A.in1 outer s H:=⟨e.frames,e.mod,e.bs,e.bsz,e.funs,e.frf,e.hok,e.bare⟩
section
variable{X:Cx}{pins:List (Addr×Obj)}{σ:St}{H:Hp}{s s':Shared}
theorem Inv.env0(I:Inv X pins σ H s):Env0 X.prog X.w X.K X.mg X.base X.A X.stack s H :=
  ⟨I.ok.frames,I.ok.mod,I.bs,Q0 I.ok.bsz I.sz,I.stack,I.stkFree,I.hok,I.bare⟩
theorem Inv.after{Q:VK}{u:Value}(I:Inv X pins σ H s)(h:CE X.stack X.prog X.w H s Q u s'):EP X pins σ Q u s':=by
  obtain ⟨v,H',os,bare,un,hok,r,q⟩:=h
  obtain ⟨hh,g,d,t,os'⟩:=s'
  obtain rfl:os'=s.os:=os
  exact ⟨v,H',I.call (h':=hh) (g':=g) (d':=d) (t':=t) (ch:=[]) un hok bare (λb z=>absurd z (by simp)),r,q⟩
end
def Zog(sp:Sp)(dvs:List V)(E:XK)(t:TA):TE:=λσ H Q=>t σ H λvs H1=>sp (vs++dvs) H1 Q E
def Zoh(C:Addr)(sp:Sp)(dvs:List V)(E:XK)(t:TA):TE:=λσ H Q=>t σ H λvs H1=>∀x dx,H1 x=none->H1 dx=none->dx≠x →
  sp (.ref x::(vs++dvs)) (upd (upd H1 dx (.own x)) x (.ins C dx [])) (λv H2=>v = .non/\Q (.ref x) H2) E
def Binds(K:PySem.W.Frag)(fd:FuncData)(ps:List Str)(ds:List Value):Prop :=
  ∀(s:Shared) (us:List Value),K.In s.heap->(us++ds).length=ps.length->BindsTo s fd ⟨us,[]⟩ (ps.zip (us++ds))
theorem Binds.all{K:PySem.W.Frag}{fd:FuncData}{ps:List Str}(h:∀us:List Value,us.length=ps.length->bindArgs fd ⟨us,[]⟩=pure (ps.zip us)):Binds K fd ps []:=λs us _ hl=>by
  rw[Uu] at hl ⊢
  exact .of_eq (h us hl)
def ZgW(CX:CXT)(X:Cx)(E:XK):Prop:=∀(pins:List (Addr×Obj)) (σ:St) (H:Hp) (s:Shared) (e:Value) (s':Shared),Inv X pins σ H s->CX X.stack H s E e s'->X.xe e s'
section
variable{X:Cx}{CX:CXT}{k:Nat}{f C:Addr}{fd:FuncData}{ps:List Str}{sp:Sp}{dvs:List V}{ds:List Value}{E:XK}{x m:Str}{p pos apos:Pos}{e o:Expr}{es:List Expr}{ta:TE}{t:TA}
theorem Zmx{pins:List (Addr×Obj)}{σ:St}{H:Hp}{s:Shared}{Q:VK}{us:List Value}{vs:List V}(F:FnOk X.prog X.w X.K X.mg X.base CX k f fd ps sp)(hr:Room k X.A)(hb:Binds X.K fd ps ds)(hd:Vals dvs ds)(hx:ZgW CX X E)
    (I:Inv X pins σ H s) (r:Vals vs us) (h:sp (vs++dvs) H Q E):wpAny (model X.prog X.w) X.A (call (.ref f) us) (EP X pins σ Q) X.xe s:=by
  have r2:Vals (vs++dvs) (us++ds):=r.append hd
  have hl:(us++ds).length=ps.length:=by rw[<-r2.length]; exact F.len _ _ _ _ h
  refine wpAny_call (codeAny_mono (F.run X.A X.stack s H ⟨us,[]⟩ (us++ds) (vs++dvs) Q E hr I.env0 (hb s us I.kIn hl) r2 h) λr s' hq=>?_)
  cases r with
  | error e=>exact hx pins σ H s e s' I hq
  | ok fl =>
    cases fl with
    | ret u=>exact I.after hq
    | next=>exact False.elim hq
    | brk=>exact False.elim hq
    | cont=>exact False.elim hq
theorem ZmY(F:FnOk X.prog X.w X.K X.mg X.base CX k f fd ps sp)(hr:Room k X.A)(hg:Gl X x)(hm:X.mg x=some (.ref f))(hk:PySem.W.keepIn X.K (.ref f)=true)(hb:Binds X.K fd ps ds)(hd:Vals dvs ds)(hx:ZgW CX X E)
    (ha:PA X (e::es) t) (hdb:(x==("__debug__" : Str))=false:=by decide) (he:starEach (e::es) X.env=(false,eval e X.env)::starEach es X.env:=by rfl) (hpl:(backTo pos (starEach es X.env)).any (·.1)=false:=by rfl) :
    PE X (.Call (.Name x p) (e::es) [] pos) (Zog sp dvs E t):=by
  intro pins s σ H Q I h
  refine wpAny_Call_Name_kw (Zcm I hg hm ?_ hdb)
  refine PySem.W.callWith_K (h₀:=X.base) I.ok.mod.kin hk (thn (ha pos pins s σ H _ I h) λus s1 ⟨vs,H1,I1,r,q⟩=>⟨I1.kIn,?_⟩) he hpl
  exact Zmx F hr hb hd hx I1 r q
structure Mk (K:PySem.W.Frag) (C f:Addr):Prop where
  makes:PySem.W.makesIn K C=true
  init:PySem.W.findIn K (.ref C) "__init__" = some (some (.ref f))
  fn:PySem.W.isFn K (.ref f)=true
  kp:PySem.W.keepIn K (.ref C)=true
theorem ZlA{pins:List (Addr×Obj)}{σ:St}{H:Hp}{s:Shared}{Q:VK}{us:List Value}{vs:List V}(M:Mk X.K C f)(F:FnOk X.prog X.w X.K X.mg X.base CX k f fd ps sp)(hr:Room (k+1) X.A)(hb:Binds X.K fd ps ds)(hd:Vals dvs ds)
    (hx:ZgW CX X E) (I:Inv X pins σ H s) (r:Vals vs us)
    (h:∀x dx,H x=none->H dx=none->dx≠x->sp (.ref x::(vs++dvs)) (upd (upd H dx (.own x)) x (.ins C dx [])) (λv H2=>v = .non/\Q (.ref x) H2) E) :
    wpAny (model X.prog X.w) X.A (call (.ref C) us) (EP X pins σ Q) X.xe s:=by
  have hq:=h (s.heap.objs.size+1) s.heap.objs.size (I.hok.fresh (Wo _)) (I.hok.fresh (Q4 _)) (Qb (Ue _))
  have I2:=Inv.made (C:=C) I
  have r2:Vals (V.ref (s.heap.objs.size+1)::(vs++dvs)) (Value.ref (s.heap.objs.size+1)::(us++ds)):=.cons rfl (r.append hd)
  have hl:(Value.ref (s.heap.objs.size+1)::us++ds).length=ps.length:=by
    have e:=r2.length
    rw[F.len _ _ _ _ hq] at e
    exact e.symm
  refine wpAny_call (Zlz (f:=f) I.kIn M.makes M.init (beq_iff_eq.mp M.fn) (codeAny_mono (F.run _ X.stack _ _ ⟨Value.ref (s.heap.objs.size+1)::us,[]⟩ (Value.ref (s.heap.objs.size+1)::(us++ds)) _ _ E (hr.make C us [])
    (I2.env0.make C us []) (hb _ (Value.ref (s.heap.objs.size+1)::us) I2.kIn hl) r2 hq) λr s' hq'=>?_))
  cases r with
  | error e=>exact hx pins σ _ _ e s' I2 hq'
  | ok fl =>
    cases fl with
    | ret u =>
      obtain ⟨v,H',I3,rv,ev,q3⟩:=I2.after hq'
      subst ev
      exact ⟨rv,⟨V.ref (s.heap.objs.size+1),H',I3,rfl,q3⟩⟩
    | next=>exact False.elim hq'
    | brk=>exact False.elim hq'
    | cont=>exact False.elim hq'
theorem ZmZ(M:Mk X.K C f)(F:FnOk X.prog X.w X.K X.mg X.base CX k f fd ps sp)(hr:Room (k+1) X.A)(hg:Gl X x)(hm:X.mg x=some (.ref C))(hb:Binds X.K fd ps ds)(hd:Vals dvs ds)(hx:ZgW CX X E)
    (ha:PA X (e::es) t) (hdb:(x==("__debug__" : Str))=false:=by decide) (he:starEach (e::es) X.env=(false,eval e X.env)::starEach es X.env:=by rfl) (hpl:(backTo pos (starEach es X.env)).any (·.1)=false:=by rfl) :
    PE X (.Call (.Name x p) (e::es) [] pos) (Zoh C sp dvs E t):=by
  intro pins s σ H Q I h
  refine wpAny_Call_Name_kw (Zcm I hg hm ?_ hdb)
  refine PySem.W.callWith_K (h₀:=X.base) I.ok.mod.kin M.kp (thn (ha pos pins s σ H _ I h) λus s1 ⟨vs,H1,I1,r,q⟩=>⟨I1.kIn,?_⟩) he hpl
  exact ZlA M F hr hb hd hx I1 r q
end
section
variable{X:Cx}{CX:CXT}{k:Nat}{f C:Addr}{fd:FuncData}{ps ks:List Str}{sp:Sp}{E:XK}{x m:Str}{p pos apos kpos:Pos}{e o:Expr}{es:List Expr}{kws:List Keyword}{te ta:TE}{t tk:TA}{nm:Option Str}
structure KBinds (K:PySem.W.Frag) (fd:FuncData) (ps ks:List Str) (g:List Value->List Value->List Value) (gV:List V->List V->List V):Prop where
  to:∀(s:Shared) (us ws:List Value),K.In s.heap->(g us ws).length=ps.length->BindsTo s fd ⟨us,ks.zip ws⟩ (ps.zip (g us ws))
  rel:∀ {vs:List V} {us:List Value} {zs:List V} {ws:List Value},Vals vs us->Vals zs ws->Vals (gV vs zs) (g us ws)
variable{g:List Value->List Value->List Value}{gV:List V->List V->List V}
end
structure FnScope (N P:List Str) (sc:Scope):Prop where
  kind:sc.kind = .function
  co:sc.isCoroutine=false
  gen:sc.isGenerator=false
  nd:N.Nodup
  pre:N.take P.length=P
  par:∀x∈P,sc.names.lookup x=some .local\/sc.names.lookup x=some .cell
  nofree:∀y∈sc.names,y.2 ≠ .free
theorem ZgX{kindOf:Str->Option NameKind}{x:Str}:∀ {binds:List (Str×Value)} {m:Str->Option Value},(∀v,(x,v)∉binds)->bindL kindOf binds m x=m x
  | [],_,_=>rfl
  | (n,v)::r,m,h=>by
    unfold bindL
    rw[ZgX λw hw=>h w (W3 _ hw)]
    split
    · have:x≠n:=by rintro rfl; exact h v Qv
      simp[this]
    · rfl
theorem ZgY{kindOf:Str->Option NameKind}{x:Str}:∀ {binds:List (Str×Value)} {m:Str->Option Value},(∀v,(x,v)∉binds)->bindC kindOf binds m x=m x
  | [],_,_=>rfl
  | (n,v)::r,m,h=>by
    unfold bindC
    rw[ZgY λw hw=>h w (W3 _ hw)]
    split
    · rfl
    · have:x≠n:=by rintro rfl; exact h v Qv
      simp[this]
theorem ZgZ{kindOf:Str->Option NameKind}{x:Str}{v:Value}:∀ {P:List Str} {vs:List Value} {i:Nat} {m:Str->Option Value},P.Nodup->P[i]?=some x->vs[i]?=some v->kindOf x=some .local →
    bindL kindOf (P.zip vs) m x=some v
  | [],_,_,_,_,h,_,_=>by simp at h
  | _::_,[],_,_,_,_,h,_=>by simp at h
  | p::P,w::vs,0,m,nd,h1,h2,hk=>by
    simp at h1 h2; subst h1; subst h2
    show bindL kindOf ((p,w)::P.zip vs) m p=_
    unfold bindL
    rw[ZgX λv hv=>(List.nodup_cons.mp nd).1 (List.of_mem_zip hv).1,if_pos hk]
    simp
  | p::P,w::vs,i+1,m,nd,h1,h2,hk=>by
    show bindL kindOf ((p,w)::P.zip vs) m x=_
    unfold bindL
    exact ZgZ (i:=i) (List.nodup_cons.mp nd).2 (by simpa using h1) (by simpa using h2) hk
theorem Zg0{kindOf:Str->Option NameKind}{x:Str}{v:Value}:∀ {P:List Str} {vs:List Value} {i:Nat} {m:Str->Option Value},P.Nodup->P[i]?=some x->vs[i]?=some v->kindOf x≠some .local →
    bindC kindOf (P.zip vs) m x=some v
  | [],_,_,_,_,h,_,_=>by simp at h
  | _::_,[],_,_,_,_,h,_=>by simp at h
  | p::P,w::vs,0,m,nd,h1,h2,hk=>by
    simp at h1 h2; subst h1; subst h2
    show bindC kindOf ((p,w)::P.zip vs) m p=_
    unfold bindC
    rw[ZgY λv hv=>(List.nodup_cons.mp nd).1 (List.of_mem_zip hv).1,if_neg hk]
    simp
  | p::P,w::vs,i+1,m,nd,h1,h2,hk=>by
    show bindC kindOf ((p,w)::P.zip vs) m x=_
    unfold bindC
    exact Zg0 (i:=i) (List.nodup_cons.mp nd).2 (by simpa using h1) (by simpa using h2) hk
def start(N:List Str)(vs:List V):St:=vs.map some++List.replicate (N.length-vs.length) none
def Zm0(CX:CXT)(P:Program)(w:World)(K:PySem.W.Frag)(mg:Str->Option Value)(base:Heap)(N:List Str)(qual:Str)(scope:Scope)(f:Addr)(cd:Value)(A:Around)(outer:List Env)(s:Shared)(H:Hp)(E:XK):Cx where
  prog:=P
  w:=w
  K:=K
  mg:=mg
  base:=base
  A:=A.deeper (envOfC qual scope s.heap.objs.size f cd)
  N:=N
  s₀:=s
  H₀:=H
  env:=envOfC qual scope s.heap.objs.size f cd
  outer:=outer
  stack:=envOfC qual scope s.heap.objs.size f cd::outer
  ex:=[]
  calm:=true
  fn:=λ_=>true
  pn:=[]
  xe:=λe s'=>wpAny (model P w) (A.deeper (envOfC qual scope s.heap.objs.size f cd)) (leaving (envOfC qual scope s.heap.objs.size f cd) e) (λ_ s''=>CX outer H s E e s'') (λe' s''=>CX outer H s E e' s'') s'
theorem Ziu{sc:Scope}{n:Nat}{x:Str}(h:sc.names.lookup x=some .cell):∃c,(cellsFrom n sc.names []).lookup x=some c:=by
  have q:=PySem.W.cellsFrom_some sc.names n [] (.inl h)
  exact Option.isSome_iff_exists.mp q
theorem ZjP{CX:CXT}{P:Program}{w:World}{K:PySem.W.Frag}{mg:Str->Option Value}{base:Heap}{N ps:List Str}{qual:Str}{scope:Scope}{f:Addr}{cd:Value}{A:Around}{outer:List Env}{s s1:Shared}{H:Hp}{E:XK}{us:List Value}{vs:List V}
    (S:FnScope N ps scope) (hd:A.handled=none) (e0:Env0 P w K mg base A outer s H) (hl:vs.length=ps.length) (r:Vals vs us)
    (x:InCallC s s.heap.objs.size (bindL (envOfC qual scope s.heap.objs.size f cd).kindOf (ps.zip us) λ_=>none) (cellsFrom (s.heap.objs.size+1) scope.names []) (bindC (envOfC qual scope s.heap.objs.size f cd).kindOf (ps.zip us) λ_=>none) s1) :
    Inv (Zm0 CX P w K mg base N qual scope f cd A outer s H E) [] (start N vs) H s1:=by
  have hpl:ps.length<=N.length:=by have:=congrArg List.length S.pre; rw[Wp] at this; omega
  obtain ⟨h1,tk,rfl,hk⟩:=x.done
  have noA:∀b:Addr,b∉(Zm0 CX P w K mg base N qual scope f cd A outer s H E).ex:=λb z=>absurd (show b∈([]:List Addr) from z) (by simp)
  refine ⟨⟨e0.mod,S.kind,rfl,rfl,Q4 _,λy z c h1 h2=>?_,λy hy=>?_,λy c _ h=>?_,λ_=>hd,Around.frames_deeper e0.frames,.inr ⟨rfl,rfl⟩,λb z=>absurd z (noA b),e0.bs,e0.bsz,λb _ _=>noA b,λb z=>absurd z (noA b),e0.funs,e0.frf⟩,
    rfl,e0.bare,Un.kept hk,⟨_,x.toInCall.ns,λi y v h1 h2 h3=>?_⟩,λy c h=>⟨_,x.cell y c h⟩,e0.hok.fresh (Q4 _),λy c h=>?_,λp hp=>absurd (show p∈([]:List (Addr×Obj)) from hp) (by simp),e0.hok.kept hk,?_⟩
  · exact name_of_addr x.apart (PySem.mem_of_lookup h1) (PySem.mem_of_lookup h2)
  · have hy:scope.names.lookup y=some .cell\/scope.names.lookup y=some .free:=hy
    rcases hy with hy | hy
    · exact Ziu hy
    · exact absurd rfl (S.nofree _ (PySem.mem_of_lookup hy))
  · exact Wv (x.above y c (PySem.mem_of_lookup h))
  · have hi:i<vs.length:=by
      unfold start at h2
      by_cases hi:i<vs.length
      · exact hi
      · rw[Wg (by simpa using hi)] at h2
        rw[List.getElem?_replicate] at h2
        split at h2 <;> cases h2
    have ha:vs[i]?=some v:=by
      unfold start at h2
      rw[Wh (by simpa using hi),Qg] at h2
      cases e:vs[i]? with
      | none=>rw[e] at h2; cases h2
      | some a=>rw[e] at h2; cases h2; rfl
    obtain ⟨u,hu,rv⟩:=r.get ha
    have hp:ps[i]?=some y:=by
      rw[<-S.pre,List.getElem?_take_of_lt ⋯]; exact h1
    have ndP:ps.Nodup:=by rw[<-S.pre]; exact S.nd.sublist (List.take_sublist _ _)
    refine ⟨u,rv,?_⟩
    rcases S.par y (Q9 hp) with k | k
    · exact .inl ⟨k,ZgZ ndP hp hu k⟩
    · obtain ⟨c,e⟩:=Ziu (n:=s.heap.objs.size+1) k
      refine .inr ⟨.inl k,c,e,?_⟩
      have q:=x.cell y c e
      rw[Zg0 ndP hp hu (by show scope.names.lookup y≠_; rw[k]; decide)] at q
      exact q
  · exact e0.hok.fresh (Wv (x.above y c (PySem.mem_of_lookup h)))
  · unfold start
    show _=N.length
    rw[Qd,Q1,Uv]
    omega
theorem Zm1{CX:CXT}{P:Program}{w:World}{K:PySem.W.Frag}{mg:Str->Option Value}{base:Heap}{k:Nat}{f:Addr}{name qual:Str}{params:Arguments}{body:List Stmt}{scope:Scope}{dV kV doc pm cdv ct oc:Value}{an od:Option Addr}
    {osl:Array (Option Value)} {N ps:List Str} {sp:Sp} (lk:K.lookup f=some ⟨oc,od,.func (PySem.W.fnOf name qual params body scope dV kV doc pm an cdv ct),osl⟩) (hcd:PySem.W.codeIn K cdv qual=true) (S:FnScope N ps scope)
    (len:∀vs H Q E,sp vs H Q E->vs.length=ps.length)
    (hbody:∀(A:Around) (outer:List Env) (s:Shared) (H:Hp) (vs:List V) (Q:VK) (E:XK),Room k (A.deeper (envOfC qual scope s.heap.objs.size f cdv))->sp vs H Q E →
      ∃t,PSs (Zm0 CX P w K mg base N qual scope f cdv A outer s H E) body t/\t { nx:=λ_ H'=>Q .non H',rt:=Q } (start N vs) H) :
    FnOk P w K mg base CX (k+1) f (PySem.W.fnOf name qual params body scope dV kV doc pm an cdv ct) ps sp:=by
  refine ⟨len,λA outer s H args us vs Q E hr e0 hb r hsp=>?_⟩
  have hl:=len _ _ _ _ hsp
  have KX:K.In s.heap:=e0.mod.kin.keeps λb o e=>(e0.bs b o e).1
  have lim:s.heap.NoLimit:=e0.mod.nolimit.keeps λb o e=>(e0.bs b o e).1
  have hkind:∀y∈ps.zip us,scope.names.lookup y.1=some .local\/(scope.names.lookup y.1=some .cell/\((cellsFrom (s.heap.objs.size+1) scope.names []).lookup y.1).isSome=true):=λ⟨n,v⟩ hy=>by
    rcases S.par n (List.of_mem_zip hy).1 with q | q
    · exact .inl q
    · exact .inr ⟨q,PySem.W.cellsFrom_some _ _ _ (.inl q)⟩
  refine codeAny_call_function hr.depth (KX _ _ lk) rfl S.co S.gen rfl (PySem.W.codeRec_of KX hcd) (hb _ _ _ _ ?_)
  refine wpAny_newFunctionEnv_cells S.kind hkind λenv he s1 x=>?_
  subst he
  refine ⟨lim.keeps x.toInCall.keep,codeAny_func ?_⟩
  obtain ⟨t,ht,hq⟩:=hbody A outer s H vs Q E (hr.deeper _) hsp
  have I:Inv (Zm0 CX P w K mg base N qual scope f cdv A outer s H E) [] (start N vs) H s1:=ZjP S hr.hd e0 hl r x
  refine wpAny_mono (ht [] s1 (start N vs) H _ I hq) (λfl s' hs=>?_) λe s' hs=>hs
  have fin:∀ {σ':St} {H':Hp} {v:V} {u:Value},Inv (Zm0 CX P w K mg base N qual scope f cdv A outer s H E) [] σ' H' s'->RelV v u->Q v H'->CE outer P w H s Q u s' :=
    fun {σ' H' v u} J rv q=>⟨v,H',J.os,J.bare,J.base,J.hok,rv,q⟩
  cases fl with
  | ret u =>
    obtain ⟨v,σ',H',J,rv,q⟩:=hs
    exact fin J rv q
  | next =>
    obtain ⟨σ',H',J,q⟩:=hs
    exact fin (v:=V.non) (u:=Value.none) J rfl q
  | brk =>
    obtain ⟨_,_,_,q⟩:=hs
    exact False.elim q
  | cont =>
    obtain ⟨_,_,_,q⟩:=hs
    exact False.elim q
end L2
namespace L2
open PySem PySem.Spec PyProof.Rows
section
variable{X:Cx}{x:Str}{p pos:Pos}{e:Expr}{es:List Expr}{t:TA}{id T:String}{r:List V->Hp->VK->Prop}
def tCB(r:List V->Hp->VK->Prop)(t:TA):TE:=λσ H Q=>t σ H λvs H1=>r vs H1 Q
theorem Zam(hc:CallR X (.builtin id) r)(hg:Gl X x)(hm:X.mg x=none)(hv:bootBuiltins x=some (.builtin id))(ha:PA X (e::es) t)(hn:x ≠ "__name__" := by decide) (hdb:(x==("__debug__" : Str))=false:=by decide)
    (he:starEach (e::es) X.env=(false,eval e X.env)::starEach es X.env:=by rfl) (hpl:(backTo pos (starEach es X.env)).any (·.1)=false:=by rfl):PE X (.Call (.Name x p) (e::es) [] pos) (tCB r t):=by
  intro pins s σ H Q I h
  refine wpAny_Call_Name_kw (ZeQ I hg hm hv ?_ hn hdb)
  exact PyProof.Rows.callWith_builtin1 (thn (ha pos pins s σ H _ I h) λus s1 ⟨vs,H1,I1,r1,q1⟩=>hc pins s1 σ H1 vs us Q I1 r1 q1) he hpl
theorem ZbB(hc:CallR X (.type T) r)(hg:Gl X x)(hm:X.mg x=none)(hv:bootBuiltins x=some (.type T))(ha:PA X (e::es) t)(hn:x ≠ "__name__" := by decide) (hdb:(x==("__debug__" : Str))=false:=by decide)
    (he:starEach (e::es) X.env=(false,eval e X.env)::starEach es X.env:=by rfl) (hpl:(backTo pos (starEach es X.env)).any (·.1)=false:=by rfl):PE X (.Call (.Name x p) (e::es) [] pos) (tCB r t):=by
  intro pins s σ H Q I h
  refine wpAny_Call_Name_kw (ZeQ I hg hm hv ?_ hn hdb)
  exact PyProof.Rows.callWith_type1 (thn (ha pos pins s σ H _ I h) λus s1 ⟨vs,H1,I1,r1,q1⟩=>hc pins s1 σ H1 vs us Q I1 r1 q1) he hpl
end
end L2
namespace HT
open PySem PyProof.Rows
section
open PySem.SeqAt
open PySem.AutoSeq1 (wpAny_loadPart')
open PySem.MeetsSeq PySem.MeetsSeq2 PySem.MeetsSeq3
end
section
variable{prog:Program}{w:World}{A:Around}{E:Value->Shared->Prop}{s:Shared}
def sIx(n d:Nat):Option Int->Nat
  | none=>d
  | some v=>if v<0 then (v+(n:Int)).toNat else min v.toNat n
theorem sIx_none(n d:Nat):sIx n d none=d:=rfl
theorem sIx_nat(n d k:Nat):sIx n d (some (k:Int))=min k n:=by
  show (if (k:Int)<0 then ((k:Int)+(n:Int)).toNat else min (k:Int).toNat n)=min k n
  rw[if_neg ⋯,Q7]
end
end HT
namespace L2
open PySem PySem.Spec PyProof.Rows
abbrev TO:=St->Hp->(Option Int->Hp->Prop)->Prop
def PO(X:Cx)(e:Option Expr)(t:TO):Prop :=
  ∀(pins:List (Addr×Obj)) (s:Shared) (σ:St) (H:Hp) (Q:Option Int->Hp->Prop),Inv X pins σ H s->t σ H Q →
    wpAny (model X.prog X.w) X.A (evalPart e X.env) (λu s'=>∃o H',Inv X pins σ H' s'/\IsPart u o/\Q o H') X.xe s
def Zm2:TO:=λ_ H Q=>Q none H
def Zo9(t:TE):TO:=λσ H Q=>t σ H λx H1=>∃i,x = .int i/\Q (some i) H1
section
variable{X:Cx}{e:Expr}{te:TE}{lo hi:Option Expr}{tl th:TO}{pos p2:Pos}
theorem Zm3:PO X none Zm2:=by
  intro pins s σ H Q I h
  rw[evalPart_none]
  exact wpAny_pure ⟨none,H,I,.none,h⟩
theorem Zm4(h:PE X e te):PO X (some e) (Zo9 te):=by
  intro pins s σ H Q I hw
  rw[evalPart_some]
  refine thn (h pins s σ H _ I hw) λu s1 ⟨x,H1,I1,r1,q1⟩=>?_
  obtain ⟨i,rfl,q⟩:=q1
  obtain ⟨t,rfl⟩:=r1
  exact ⟨some i,H1,I1,.int i t,q⟩
def SlR(X:Cx)(r:V->Option Int->Option Int->Hp->VK->Prop):Prop :=
  ∀(pins:List (Addr×Obj)) (s:Shared) (σ:St) (H:Hp) (x:V) (v vl vu:Value) (lo hi:Option Int) (sl:Addr) (Q:VK),Inv X pins σ H s->RelV x v->s.heap.IsSliceOf sl vl vu .none->IsPart vl lo->IsPart vu hi->r x lo hi H Q →
    ∃T id,typeLookup (.type T) "__getitem__" = pure (some (.builtin id))/\s.TypeIs v T/\wpAny (model X.prog X.w) X.A (getItem v (.ref sl)) (EP X pins σ Q) X.xe s
theorem SlR.or{r r':V->Option Int->Option Int->Hp->VK->Prop}(h:SlR X r)(h':SlR X r'):SlR X (λx lo hi H Q=>r x lo hi H Q\/r' x lo hi H Q):=by
  intro pins s σ H x v vl vu lo hi sl Q I rx hs pl pu q
  rcases q with q | q
  · exact h pins s σ H x v vl vu lo hi sl Q I rx hs pl pu q
  · exact h' pins s σ H x v vl vu lo hi sl Q I rx hs pl pu q
def tSl(r:V->Option Int->Option Int->Hp->VK->Prop)(te:TE)(tl th:TO):TE:=λσ H Q=>te σ H λx H1=>tl σ H1 λl H2=>th σ H2 λu H3=>r x l u H3 Q
theorem ZlB{r:V->Option Int->Option Int->Hp->VK->Prop}(hr:SlR X r)(he:PE X e te)(hl:PO X lo tl)(hu:PO X hi th):PE X (.Subscript e (.Slice lo hi none p2) pos) (tSl r te tl th):=by
  intro pins s σ H Q I h
  refine Subscript_ (thn (he pins s σ H _ I h) λv s1 ⟨x,H1,I1,r1,q1⟩=>?_)
  refine wpAny_Slice (thn (hl pins s1 σ H1 _ I1 q1) λvl s2 ⟨l,H2,I2,pl,q2⟩=>thn (hu pins s2 σ H2 _ I2 q2) λvu s3 ⟨u,H3,I3,pu,q3⟩=>?_)
  rw[evalPart_none]
  refine wpAny_pure ?_
  have I4:Inv X pins σ H3 { s3 with heap:=s3.heap.push { cls:=.type "slice", data:=.fields #[vl,vu,.none] } }:=I3.kept (t':=s3.toks) λb ob q=>Heap.get?_push_of_some _ q
  obtain ⟨T,id,hT,ht,hg⟩:=hr pins { s3 with heap:=s3.heap.push { cls:=.type "slice", data:=.fields #[vl,vu,.none] } } σ H3 x v vl vu l u s3.heap.objs.size Q I4 r1 (Heap.IsSliceOf.new ..) pl pu q3
  show wpAny (model X.prog X.w) X.A (subscriptTail e (.Slice lo hi none p2) v (.ref s3.heap.objs.size)) (EP X pins σ Q) X.xe { s3 with heap:=s3.heap.push { cls:=.type "slice", data:=.fields #[vl,vu,.none] } }
  exact tail_any (ops:=[.ref s3.heap.objs.size,v]) ht hT hg (by with_unfolding_all rfl)
def ZlC(xs:List V)(lo hi:Option Int):List V:=(xs.drop (HT.sIx xs.length 0 lo)).take (HT.sIx xs.length xs.length hi-HT.sIx xs.length 0 lo)
theorem ZhA(xs:List V)(lo hi:Option Int):(ZlC xs lo hi).length<=xs.length:=by
  unfold ZlC
  rw[Wp,List.length_drop]
  omega
end
end L2
namespace L2
open PySem PySem.Spec PyProof.Rows
def ixN(n:Nat)(i:Int):Option Nat:=if 0<=i then (if i<n then some i.toNat else none) else if -(n:Int)<=i then some (i+n).toNat else none
def atI{α:Type}(xs:List α)(i:Int):Option α:=(ixN xs.length i).bind λj=>xs[j]?
theorem ZjQ{n:Nat}{i:Int}{j:Nat}(h:ixN n i=some j):seqIndex? i n=some j/\j<n /\ -(n:Int)<=i/\i<n:=by
  unfold ixN at h
  by_cases h0:0<=i
  · rw[if_pos h0] at h
    by_cases h1:i<n
    · rw[if_pos h1] at h
      have e:i.toNat=j:=Option.some.inj h
      exact ⟨by rw[seqIndex_of h0 h1,e],⋯,⋯,h1⟩
    · rw[if_neg h1] at h; cases h
  · rw[if_neg h0] at h
    by_cases h1:-(n:Int)<=i
    · rw[if_pos h1] at h
      have e:(i+n).toNat=j:=Option.some.inj h
      exact ⟨by rw[seqIndex_neg ⋯ h1,e],⋯,h1,⋯⟩
    · rw[if_neg h1] at h; cases h
theorem ZjR{α:Type}{xs:List α}{i:Int}{v:α}(h:atI xs i=some v):∃j,seqIndex? i xs.length=some j/\xs[j]?=some v/\j<xs.length /\ -(xs.length:Int)<=i/\i<xs.length:=by
  unfold atI at h
  cases e:ixN xs.length i with
  | none=>rw[e] at h; cases h
  | some j =>
    rw[e] at h
    obtain ⟨h1,h2,h3,h4⟩:=ZjQ e
    exact ⟨j,h1,h,h2,h3,h4⟩
theorem ZbE{α:Type}{xs:List α}{j:Nat}{v:α}(h:xs[j]?=some v):atI xs (j:Int)=some v:=by
  have hj:j<xs.length:=(Qw.mp h).1
  have e:ixN xs.length (j:Int)=some j:=by
    unfold ixN
    rw[if_pos ⋯,if_pos ⋯]; simp
  unfold atI; rw[e]; exact h
def Zm5(b:Expr):Prop:=∀o i,subscripted b false o i=operate [o,i] (getItem o i)
def IxR(X:Cx)(r:R2):Prop :=
  ∀(value slice:Expr) (pins:List (Addr×Obj)) (s:Shared) (σ:St) (H:Hp) (x y:V) (v u:Value) (Q:VK),Inv X pins σ H s->RelV x v->RelV y u->r x y H Q →
    subscripted slice false v u=operate [v,u] (getItem v u)->wpAny (model X.prog X.w) X.A (subscriptTail value slice v u) (EP X pins σ Q) X.xe s
def MtR(X:Cx)(id:String)(r:V->List V->Hp->VK->Prop):Prop :=
  ∀(pins:List (Addr×Obj)) (s:Shared) (σ:St) (H:Hp) (x:V) (xs:List V) (v:Value) (us:List Value) (Q:VK),Inv X pins σ H s->RelV x v->Vals xs us->r x xs H Q →
    wpAny (model X.prog X.w) X.A (call (.builtin id) (v::us)) (EP X pins σ Q) X.xe s
section
variable{X:Cx}{a b:Expr}{ta tb:TE}{pos:Pos}
theorem IxR.or{r r':R2}(h:IxR X r)(h':IxR X r'):IxR X (λx y H Q=>r x y H Q\/r' x y H Q):=by
  intro value slice pins s σ H x y v u Q I rx ry q hs
  rcases q with q | q
  · exact h value slice pins s σ H x y v u Q I rx ry q hs
  · exact h' value slice pins s σ H x y v u Q I rx ry q hs
theorem MtR.or{id:String}{r r':V->List V->Hp->VK->Prop}(h:MtR X id r)(h':MtR X id r'):MtR X id (λx xs H Q=>r x xs H Q\/r' x xs H Q):=by
  intro pins s σ H x xs v us Q I rx rs q
  rcases q with q | q
  · exact h pins s σ H x xs v us Q I rx rs q
  · exact h' pins s σ H x xs v us Q I rx rs q
theorem Zar{r:R2}(hr:IxR X r)(ha:PE X a ta)(hb:PE X b tb)(hs:Zm5 b):PE X (.Subscript a b pos) (tOp r ta tb):=by
  intro pins s σ H Q I h
  exact Subscript_ (Zo6 ha hb I h λv u s2 x y H2 I2 rx ry q=>hr a b pins s2 σ H2 x y v u Q I2 rx ry q (hs _ _))
inductive Zpa (K:PySem.W.Frag) (x y:V) (H:Hp) (Q:VK):Prop
  | mk (p:Addr) (xs:List V) (i:Int) (v:V) (_:x = .ref p) (_:y = .int i) (_:SqL K H p xs) (_:atI xs i=some v) (_:Q v H):Zpa K x y H Q
inductive ZpE (K:PySem.W.Frag) (x y:V) (H:Hp) (Q:VK):Prop
  | mk (p:Addr) (xs:List V) (i:Int) (v:V) (_:x = .ref p) (_:y = .int i) (_:SqT K H p xs) (_:atI xs i=some v) (_:Q v H):ZpE K x y H Q
theorem Zav:IxR X (Zpa X.K):=by
  intro value slice pins s σ H x y v u Q I rx ry h hs
  obtain ⟨p,xs,i,z,rfl,rfl,hq,he,q⟩:=h
  cases rx
  obtain ⟨t,rfl⟩:=ry
  obtain ⟨its,r,pl,hz⟩:=I.list hq
  obtain ⟨j,h1,h2,h3,h4,h5⟩:=ZjR he
  obtain ⟨w,ew,rw'⟩:=r.get h2
  have hl:=r.length
  have hn:=Zis
  have fin:EP X pins σ Q w s:=⟨z,H,I,rw',q⟩
  by_cases h0:0<=i
  · have hj:i.toNat=j:=by
      rw[seqIndex_of h0 h5] at h1
      exact Option.some.inj h1
    exact item_listR pl.isList h0 ⋯ (by rw[hj]; simpa using ew) fin hs
  · have hj:(i+(its.toArray.size:Int)).toNat=j:=by
      rw[seqIndex_neg ⋯ h4] at h1
      rw[Qh,<-hl]
      exact Option.some.inj h1
    exact subscriptTail_builtinR (x:=w) pl.isList.typeIs slot_list_getitem.lookup
      (wpAny_getItem_list_neg (Q:=λr s'=>r=w/\EP X pins σ Q r s') pl.isList ⋯ (by rw[Qh] <;> omega) ⋯ (by rw[hj]; simpa using ew) ⟨rfl,fin⟩) hs
theorem Zan:IxR X (ZpE X.K):=by
  intro value slice pins s σ H x y v u Q I rx ry h hs
  obtain ⟨p,xs,i,z,rfl,rfl,hq,he,q⟩:=h
  cases rx
  obtain ⟨t,rfl⟩:=ry
  obtain ⟨its,r,pl,hz⟩:=I.tuple hq
  obtain ⟨j,h1,h2,h3,h4,h5⟩:=ZjR he
  obtain ⟨w,ew,rw'⟩:=r.get h2
  have hl:=r.length
  have hn:=Zis
  have fin:EP X pins σ Q w s:=⟨z,H,I,rw',q⟩
  exact subscriptTail_builtinR (x:=w) pl.typeIs slot_tuple_getitem.lookup
    (getItem_tuple (j:=j) (Q:=λr s'=>r=w/\EP X pins σ Q r s') pl ⋯ ⋯ (by rw[Qh,<-hl]; exact h1) (by simpa using ew) ⟨rfl,fin⟩) hs
theorem Zi7(its:List Value)(n j:Nat)(u:Value):Obj.mapSeq (·.setIfInBounds j u) { cls:=.type "list", data:=.seq its.toArray n }={ cls:=.type "list", data:=.seq (its.set j u).toArray n }:=by
  simp[Obj.mapSeq]
theorem Inv.lst{pins:List (Addr×Obj)}{σ:St}{H:Hp}{s:Shared}{p:Addr}{xs:List V}(I:Inv X pins σ H s)(h:H p=some (.lst xs)) :
    ∃(its:List Value) (n:Nat),Vals xs its/\s.heap.get? p=some { cls:=.type "list", data:=.seq its.toArray n }/\xs.length<=sizeLine:=by
  obtain ⟨z,its,n,r,e⟩:=I.hok p _ h
  exact ⟨its,n,r,e,z⟩
theorem Inv.lstUpd{pins:List (Addr×Obj)}{σ:St}{H:Hp}{s:Shared}{p:Addr}{xs ys:List V}{its its':List Value}{n n':Nat}{f:Obj->Obj}(I:Inv X pins σ H s)(h:H p=some (.lst xs))
    (ho:s.heap.get? p=some { cls:=.type "list", data:=.seq its.toArray n }) (hf:f { cls:=.type "list", data:=.seq its.toArray n }={ cls:=.type "list", data:=.seq its'.toArray n' }) (r:Vals ys its') (hz:ys.length<=sizeLine) (t:Nat) :
    Inv X pins σ (upd H p (.lst ys)) { s with heap:=s.heap.update p f,toks:=t }:=by
  have e:(s.heap.update p f).get? p=some { cls:=.type "list", data:=.seq its'.toArray n' }:=by
    rw[Heap.get?_update_self f ho (by rw[hf] <;> rfl),hf]
  refine I.write (x:=p) (e:=p) (by rw[h]; trivial) (.inl rfl) (λb u hb q=>(Heap.get?_update_other _ _ (Ne.symm hb)).trans q) ⟨_,e⟩ ?_
  exact ⟨hz,its',n',r,e⟩
inductive Zoi (o i v:V) (H:Hp) (Q:Hp->Prop):Prop
  | mk (p:Addr) (xs:List V) (k:Int) (j:Nat) (_:o = .ref p) (_:i = .int k) (_:H p=some (.lst xs)) (_:ixN xs.length k=some j) (_:Q (upd H p (.lst (xs.set j v)))):Zoi o i v H Q
theorem Zdd:ZpA X Zoi:=by
  intro pins s σ H o i v ov iv u Q I ro ri rv h
  obtain ⟨p,xs,k,j,rfl,rfl,hp,hj,q⟩:=h
  cases ro
  obtain ⟨t,rfl⟩:=ri
  obtain ⟨its,n,r,ho,hz⟩:=I.lst hp
  obtain ⟨h1,h2,h3,h4⟩:=ZjQ hj
  have hl:=r.length
  have hn:=Zis
  have I':Inv X pins σ (upd H p (.lst (xs.set j v))) { s with heap:=s.heap.update p (Obj.mapSeq (·.setIfInBounds j u)) } :=
    I.lstUpd hp ho (Zi7 its n j u) (r.set rv j) (by rw[W7]; exact hz) s.toks
  by_cases h0:0<=k
  · have hk:k.toNat=j:=by
      rw[seqIndex_of h0 h4] at h1
      exact Option.some.inj h1
    exact PySem.W.ki_setAt ho h0 ⋯ (by rw[Qh,<-hl]; exact h4) (by rw[hk]; exact ⟨_,I',q⟩)
  · have hk:(k+(its.toArray.size:Int)).toNat=j:=by
      rw[seqIndex_neg ⋯ h3] at h1
      rw[Qh,<-hl]
      exact Option.some.inj h1
    exact PySem.W.ki_setBack ho ⋯ (by rw[Qh,<-hl]; exact h3) ⋯ (by rw[hk]; exact ⟨_,I',q⟩)
theorem Zg1(lo hi:Option Int)(n:Nat):(sliceBounds lo hi none n).1=((HT.sIx n 0 lo:Nat):Int)/\(sliceBounds lo hi none n).2.1=((HT.sIx n n hi:Nat):Int)/\(sliceBounds lo hi none n).2.2=1:=by
  refine ⟨?_,?_,rfl⟩
  · cases lo with
    | none=>simp[sliceBounds,HT.sIx]
    | some i =>
      simp only[sliceBounds,HT.sIx,Option.getD_none,show (1:Int)>0 by decide,if_true]
      by_cases h:i<0
      · simp only[h,if_true] <;> omega
      · simp only[h,if_false] <;> omega
  · cases hi with
    | none=>simp[sliceBounds,HT.sIx]
    | some i =>
      simp only[sliceBounds,HT.sIx,Option.getD_none,show (1:Int)>0 by decide,if_true]
      by_cases h:i<0
      · simp only[h,if_true] <;> omega
      · simp only[h,if_false] <;> omega
theorem Zf2(its:List Value)(lo hi:Option Int):slicePick its.toArray lo hi none=((its.drop (HT.sIx its.length 0 lo)).take (HT.sIx its.length its.length hi-HT.sIx its.length 0 lo)).toArray:=by
  obtain ⟨h1,h2,h3⟩:=Zg1 lo hi its.toArray.size
  unfold slicePick
  rw[h1,h2,h3]
  simp only[sliceRange_one,pick_run,Qh] <;> rfl
def Zp0(K:PySem.W.Frag):V->Option Int->Option Int->Hp->VK->Prop:=λx lo hi H Q=>∃a xs,x = .ref a/\SqL K H a xs/\∀p,H p=none->Q (.ref p) (upd H p (.lst (ZlC xs lo hi)))
theorem Zm6:SlR X (Zp0 X.K):=by
  intro pins s σ H x v vl vu lo hi sl Q I rx hs pl pu h
  obtain ⟨a,xs,rfl,hx,q⟩:=h
  cases rx
  obtain ⟨its,r,ht,hz⟩:=I.list hx
  have hlen:=r.length
  refine ⟨"list", _,slot_list_getitem.lookup,ht.isList.typeIs,?_⟩
  refine wpAny_getItem_list_slice ht.isList hs pl pu .none (by simp) ?_ (by rw[Qh] <;> omega)
  rw[Zf2,<-hlen]
  refine ⟨.ref s.heap.objs.size,_,I.laid (t':=s.toks) (o:=.lst (ZlC xs lo hi)) (λb ob q=>Heap.get?_push_of_some _ q) (Q4 _) ?_,rfl,q _ (I.hok.fresh (Q4 _))⟩
  exact ⟨Q0 (ZhA xs lo hi) hz,_,0,(r.drop (HT.sIx xs.length 0 lo)).take (HT.sIx xs.length xs.length hi-HT.sIx xs.length 0 lo),Heap.get?_push_size _ rfl⟩
theorem Zai:CallR X (.builtin "len") (λxs H Q=>∃p ys,xs=[.ref p]/\(SqL X.K H p ys\/SqT X.K H p ys)/\Q (.int ys.length) H):=by
  intro pins s σ H xs us Q I r h
  obtain ⟨p,ys,rfl,hq,q⟩:=h
  obtain ⟨u,rfl,rx⟩:=Zi1 r
  cases rx
  have hn:=Zis
  rcases hq with hq | hq
  · obtain ⟨its,r',pl,hz⟩:=I.list hq
    have hlen:=r'.length
    exact Calls.call_len_list pl.isList (by simp only[Qh] <;> omega) ⟨.int ys.length,H,I.tok _,⟨s.toks+1,by rw[Qh,hlen]⟩,q⟩
  · obtain ⟨its,r',pl,hz⟩:=I.tuple hq
    have hlen:=r'.length
    exact len_tuple pl (by simp only[Qh] <;> omega) ⟨.int ys.length,H,I.tok _,⟨s.toks+1,by rw[Qh,hlen]⟩,q⟩
theorem CallR.or{f:Value}{r r':List V->Hp->VK->Prop}(h:CallR X f r)(h':CallR X f r'):CallR X f (λxs H Q=>r xs H Q\/r' xs H Q):=by
  intro pins s σ H xs us Q I rs q
  rcases q with q | q
  · exact h pins s σ H xs us Q I rs q
  · exact h' pins s σ H xs us Q I rs q
theorem Zeu:CallR X (.type "list") (λxs H Q=>∃p ys,xs=[.ref p]/\(SqL X.K H p ys\/SqT X.K H p ys)/\∀l,H l=none->Q (.ref l) (upd H l (.lst ys))):=by
  intro pins s σ H xs us Q I r h
  obtain ⟨p,ys,rfl,hq,q⟩:=h
  obtain ⟨u,rfl,rx⟩:=Zi1 r
  cases rx
  have fin:∀(its:List Value),Vals ys its->ys.length<=sizeLine->∀(h':Heap) (c':Nat),(∀b o',s.heap.get? b=some o'->h'.get? b=some o') →
      h'.get? s.heap.objs.size=some { cls:=.type "list", dict:=none,data:=.seq its.toArray c',slots:=#[] }->EP X pins σ Q (.ref s.heap.objs.size) { s with heap:=h' }:=λits r' hz h' c' kp e =>
    ⟨.ref s.heap.objs.size,_,I.laid (t':=s.toks) kp (Q4 _) (show ObjOk X.prog X.w _ h' _ (.lst ys) from ⟨hz,its,c',r',e⟩),rfl,q _ (I.hok.fresh (Q4 _))⟩
  rcases hq with hq | hq
  · obtain ⟨its,r',pl,hz⟩:=I.list hq
    have hlen:=r'.length
    obtain ⟨o,ho,hc,n,hd⟩:=pl.isList
    exact call_list_seq p (.inl rfl) ho hc hd (λh' c' kp e=>fin its r' hz h' c' kp e) (by simp only[Qh] <;> omega)
  · obtain ⟨its,r',pl,hz⟩:=I.tuple hq
    have hlen:=r'.length
    obtain ⟨o,ho,hc,n,hd⟩:=pl
    exact call_list_seq p (.inr rfl) ho hc hd (λh' c' kp e=>fin its r' hz h' c' kp e) (by simp only[Qh] <;> omega)
def tyV(K:PySem.W.Frag)(T:String)(x:V)(H:Hp):Prop:=match x with
  | .str _=>T = "str"
  | .int _=>T = "int"
  | .ref p=>(T = "list" /\ ∃xs,SqL K H p xs)\/(T = "tuple" /\ ∃o,K.lookup p=some o/\o.cls = .type "tuple" /\ o.dict=none) ∨
      (T = "dict" /\ ((∃kvs,H p=some (.dK kvs))\/∃kvs,H p=some (.dT kvs)))\/(T = "set" /\ ∃S n,H p=some (.set S n))
  | _=>False
theorem Zmy{pins:List (Addr×Obj)}{σ:St}{H:Hp}{s:Shared}{T:String}{x:V}{v:Value}(I:Inv X pins σ H s)(r:RelV x v)(ty:tyV X.K T x H) :
    s.TypeIs v T/\∀a,v = .ref a->∃ob,s.heap.get? a=some ob/\ob.dict=none:=by
  cases x with
  | str z =>
    obtain ⟨t,rfl⟩:=r
    cases (show T = "str" from ty)
    exact ⟨typeIs_str s z t,λ_ e=>nomatch e⟩
  | int i =>
    obtain ⟨t,rfl⟩:=r
    cases (show T = "int" from ty)
    exact ⟨typeIs_int s i t,λ_ e=>nomatch e⟩
  | ref p =>
    cases r
    rcases ty with ⟨rfl,xs,hq⟩ | ⟨rfl,o,hk,hc,hd⟩ | ⟨rfl,hk⟩ | ⟨rfl,S,n,hk⟩
    · obtain ⟨its,_,pl,_⟩:=I.list hq
      refine ⟨pl.isList.typeIs,λa e=>?_⟩
      cases e
      obtain ⟨o,n,e,c,hd,_⟩:=pl
      exact ⟨o,e,hd⟩
    · refine ⟨⟨o,I.kIn p o hk,hc⟩,λa e=>?_⟩
      cases e
      exact ⟨o,I.kIn _ o hk,hd⟩
    · have z:∃o,s.heap.get? p=some o/\o.ExactDict:=by
        rcases hk with ⟨kvs,hk⟩ | ⟨kvs,hk⟩
        · obtain ⟨_,_,_,_,o,_,_,e,ex,_⟩:=I.hok p _ hk
          exact ⟨o,e,ex⟩
        · obtain ⟨_,_,_,_,o,_,_,e,ex,_⟩:=I.hok p _ hk
          exact ⟨o,e,ex⟩
      obtain ⟨o,e,ex⟩:=z
      refine ⟨⟨o,e,ex.1⟩,λa e2=>?_⟩
      cases e2
      exact ⟨o,e,ex.2.1⟩
    · obtain ⟨o,_,_,_,e,ex,_⟩:=I.hok p _ hk
      refine ⟨⟨o,e,ex.1⟩,λa e2=>?_⟩
      cases e2
      exact ⟨o,e,ex.2.1⟩
  | _=>exact False.elim ty
def Zp1(K:PySem.W.Frag)(T:String)(r:V->List V->Hp->VK->Prop)(to:TE):TE:=λσ H Q=>to σ H λx H1=>tyV K T x H1/\r x [] H1 Q
def tBM(K:PySem.W.Frag)(T:String)(r:V->List V->Hp->VK->Prop)(to:TE)(t:TA):TE:=λσ H Q=>to σ H λx H1=>tyV K T x H1/\t σ H1 λxs H2=>r x xs H2 Q
variable{o e:Expr}{es:List Expr}{to:TE}{t:TA}{name:Str}{apos cpos:Pos}{T id:String}{r:V->List V->Hp->VK->Prop}
theorem Zoj(pa:PlainAttrs T)(slot:Slot T name id)(hty:typeOf (.builtin id)=pure (.type "method_descriptor")) (hm:MtR X id r) (ho:PE X o to)
    (hbase:attributeBase o name X.env (eval o X.env)=eval o X.env:=by rfl) (hline:(apos.endLine==cpos.line)=true:=by rfl):PE X (.Call (.Attribute o name apos) [] [] cpos) (Zp1 X.K T r to):=by
  intro pins s σ H Q I h
  refine wpAny_Call_method0_late hbase hline (thn (ho pins s σ H _ I h) λv s1 ⟨x,H1,I1,r1,ty,q1⟩=>?_)
  obtain ⟨h1,h2⟩:=Zmy I1 r1 ty
  exact ⟨T,id,pa,slot,hty,h1,h2,Calls.callWith_builtin rfl (PySem.evalArgs_none (hm pins s1 σ H1 x [] v [] Q I1 r1 .nil q1))⟩
theorem Zf3(pa:PlainAttrs T)(slot:Slot T name id)(hty:typeOf (.builtin id)=pure (.type "method_descriptor")) (hm:MtR X id r) (ho:PE X o to) (ha:PA X (e::es) t)
    (hbase:attributeBase o name X.env (eval o X.env)=eval o X.env:=by rfl)
    (hfew:((backTo cpos (starEach (e::es) X.env)).all (λx=>!x.1)&&(backToKw cpos (keywordEach [] X.env)).all (λx=>x.1.isSome)
      && decide ((e::es).length+([]:List Keyword).length+(if ([]:List Keyword).isEmpty then 0 else 1)<30))=true:=by rfl)
    (hline:(apos.endLine==cpos.line)=true:=by rfl) (hs:starEach (e::es) X.env=(false,eval e X.env)::starEach es X.env:=by rfl) (hplain:(backTo cpos (starEach es X.env)).any (·.1)=false:=by rfl) :
    PE X (.Call (.Attribute o name apos) (e::es) [] cpos) (tBM X.K T r to t):=by
  intro pins s σ H Q I h
  refine wpAny_Call_method_late hbase hfew hline rfl (thn (ho pins s σ H _ I h) λv s1 ⟨x,H1,I1,r1,ty,q1⟩=>?_)
  obtain ⟨h1,h2⟩:=Zmy I1 r1 ty
  refine ⟨T,id,pa,slot,hty,h1,h2,?_⟩
  have hA:=ha cpos pins s1 σ H1 _ I1 q1
  rw[hs] at hA ⊢
  refine Calls.callWith_builtin (by show (false||(backTo cpos (starEach es X.env)).any (·.1))=false; rw[hplain] <;> rfl) (Calls.evalArgs_plain ?_)
  exact thn hA λus s2 ⟨vs,H2,I2,r2,q2⟩=>hm pins s2 σ H2 x vs v us Q I2 r1 r2 q2
/- xs.append(e),list.index on a module's tuple .. are MtR facts of 06m -/
end
end L2
namespace L2
open PySem PySem.Spec PyProof.Rows
def MtM(X:Cx)(id:String)(r:V->List V->Hp->VK->Prop):Prop :=
  ∀(pins:List (Addr×Obj)) (s:Shared) (σ:St) (H:Hp) (x:V) (xs:List V) (v:Value) (us:List Value) (Q:VK),Inv X pins σ H s->RelV x v->Vals xs us->r x xs H Q →
    wpAny (model X.prog X.w) X.A (call (.builtin id) (v::us)) (EP X pins σ Q) X.xe s
theorem Vals.one:∀ {x:V} {us:List Value},Vals [x] us->∃u,us=[u]/\RelV x u
  | _,_,.cons r .nil=>⟨_,rfl,r⟩
theorem Vals.eraseIdx:∀ {xs:List V} {us:List Value} (i:Nat),Vals xs us->Vals (xs.eraseIdx i) (us.eraseIdx i)
  | _,_,_,.nil => .nil
  | _,_,0,.cons _ t=>t
  | _,_,i+1,.cons r t => .cons r (Vals.eraseIdx i t)
theorem Vals.reverse{xs:List V}{us:List Value}(h:Vals xs us):Vals xs.reverse us.reverse:=by
  induction h with
  | nil=>exact .nil
  | cons r t ih=>rw[List.reverse_cons,List.reverse_cons]; exact Vals.append ih (.cons r .nil)
theorem Zg2{α:Type}:∀(l:List α) (i:Nat),(l.eraseIdx i).length<=l.length
  | [],_=>Q4 _
  | _::_,0=>Wo _
  | _::r,i+1=>Nat.succ_le_succ (Zg2 r i)
section
variable{X:Cx}{pins:List (Addr×Obj)}{σ:St}{H:Hp}{s:Shared}{l b:Addr}{xs ys zs:List V}
theorem Inv.lset{its its':List Value}{n:Nat}{f:Array Value->Array Value}{t':Nat}(I:Inv X pins σ H s)(hH:H l=some (.lst xs))
    (e:s.heap.get? l=some { cls:=.type "list", data:=.seq its.toArray n }) (hf:f its.toArray=its'.toArray) (hv:Vals ys its') (hz:ys.length<=sizeLine) :
    Inv X pins σ (upd H l (.lst ys)) { s with heap:=s.heap.update l (Obj.mapSeq f),toks:=t' }:=by
  have q:=PySem.IsL.update e f
  rw[hf] at q
  refine I.write (x:=l) (e:=l) (by rw[hH]; exact trivial) (.inl rfl) (λb' u hb hu=>(Heap.get?_update_other s.heap (Obj.mapSeq f) (Ne.symm hb)).trans hu) ⟨_,q⟩ ?_
  exact ⟨hz,its',_,hv,q⟩
theorem Inv.lnew{its:List Value}{t':Nat}(I:Inv X pins σ H s)(hv:Vals ys its)(hz:ys.length<=sizeLine) :
    Inv X pins σ (upd H s.heap.objs.size (.lst ys)) { s with heap:=s.heap.push { cls:=.type "list", data:=.seq its.toArray },toks:=t' } :=
  I.laid (λ_ _ q=>Heap.get?_push_of_some _ q) (Q4 _) ⟨hz,its,0,hv,Heap.get?_push_size _ rfl⟩
theorem Inv.fresh(I:Inv X pins σ H s):H s.heap.objs.size=none:=I.hok.fresh (Q4 _)
theorem Inv.lstM(I:Inv X pins σ H s)(hH:H l=some (.lst xs)):xs.length<=sizeLine/\∃(its:List Value) (n:Nat),Vals xs its/\xs.length=its.length/\s.heap.get? l=some { cls:=.type "list", data:=.seq its.toArray n }:=by
  obtain ⟨z,its,n,r,e⟩:=I.hok l _ hH
  exact ⟨z,its,n,r,r.length,e⟩
theorem ZlD{n:Nat}(h:n<=sizeLine):Builtin.List.listTooLong n=false:=by
  unfold Builtin.List.listTooLong
  exact decide_eq_false ⋯
end
section
variable{X:Cx}
inductive ZjS (x:V) (vs:List V) (H:Hp) (Q:VK):Prop
  | mk (l:Addr) (xs:List V) (y:V) (_:x = .ref l) (_:vs=[y]) (_:H l=some (.lst xs)) (_:xs.length<sizeLine) (_:Q .non (upd H l (.lst (xs++[y])))):ZjS x vs H Q
theorem Zci:MtM X "list.append" ZjS:=by
  intro pins s σ H x vs v us Q I rx rv h
  obtain ⟨l,xs,y,rfl,rfl,hH,hz,q⟩:=h
  cases rx
  obtain ⟨u,rfl,ru⟩:=rv.one
  obtain ⟨z,its,n,r,hl,e⟩:=I.lstM hH
  refine call_meets F.slot_list_append ⟨_,e,rfl⟩ F.entry_list_append (F.args_list_append_2 _ _) (PySem.list_append l its.toArray n u (by rw[Qh]; omega)) ⟨e,?_⟩
  refine ⟨.non,_,I.lset (its':=its++[u]) hH e (by simp) (r.append (.cons ru .nil)) ?_,rfl,q⟩
  rw[Qd,List.length_singleton]
  omega
def Zm7:V->List V->Hp->VK->Prop:=λx vs H Q=>∃l b xs zs,x = .ref l/\vs=[.ref b]/\H l=some (.lst xs)/\H b=some (.lst zs)/\xs.length+zs.length<=sizeLine/\Q .non (upd H l (.lst (xs++zs)))
theorem ZjT:MtM X "list.extend" Zm7:=by
  intro pins s σ H x vs v us Q I rx rv h
  obtain ⟨l,b,xs,zs,rfl,rfl,hH,hB,hz,q⟩:=h
  cases rx
  obtain ⟨u,rfl,ru⟩:=rv.one
  cases ru
  obtain ⟨z,its,n,r,hl,e⟩:=I.lstM hH
  obtain ⟨z2,its2,n2,r2,hl2,e2⟩:=I.lstM hB
  have hsz:its.toArray.size+its2.toArray.size<=sizeLine:=by rw[Qh,Qh]; omega
  have hlong:¬(!its.toArray.isEmpty&&Builtin.List.listTooLong (its.toArray.size+its2.toArray.size))=true:=by
    rw[ZlD hsz,Bool.and_false]
    exact Qo
  refine call_meets F.slot_list_extend ⟨_,e,rfl⟩ F.entry_list_extend (F.args_list_extend_2 _ _)
    (AutoSeq1.list_extend_list_list_0 l its.toArray n b its2.toArray n2 hlong (by rw[Qh]; omega) ⋯) ⟨e,e2,?_⟩
  refine ⟨.non,_,I.lset (its':=its++its2) hH e (by simp) (r.append r2) ?_,rfl,q⟩
  rw[Qd]
  omega
def Zok:V->List V->Hp->VK->Prop:=λx vs H Q=>∃l xs i k y,x = .ref l/\vs=[.int i]/\H l=some (.lst xs) /\ -(2^63)<=i/\i<2^63/\seqIndex? i xs.length=some k/\xs[k]?=some y/\Q y (upd H l (.lst (xs.eraseIdx k)))
theorem ZlE:MtM X "list.pop" Zok:=by
  intro pins s σ H x vs v us Q I rx rv h
  obtain ⟨l,xs,i,k,y,rfl,rfl,hH,h1,h2,hk,hy,q⟩:=h
  cases rx
  obtain ⟨u,rfl,ru⟩:=rv.one
  obtain ⟨t,rfl⟩:=ru
  obtain ⟨z,its,n,r,hl,e⟩:=I.lstM hH
  obtain ⟨w,hw,rw'⟩:=r.get hy
  refine call_meets F.slot_list_pop ⟨_,e,rfl⟩ F.entry_list_pop (F.args_list_pop_2 _ _)
    (MeetsSeq.list_pop_at l its.toArray n i t k w (fitsIndex_both h1 h2) (by rw[Qh,<-hl]; exact hk) (by rw[<-Array.getElem?_toList]; exact hw) (by rw[Qh]; omega)) ⟨e,?_⟩
  refine ⟨y,_,I.lset (its':=its.eraseIdx k) hH e ?_ (r.eraseIdx k) ?_,rw',q⟩
  · show its.toArray.eraseIdxIfInBounds k=(its.eraseIdx k).toArray
    rw[List.eraseIdxIfInBounds_toArray]
  · have:=Zg2 xs k
    omega
def Zp2:R2:=λx y H Q=>∃l b xs zs,x = .ref l/\y = .ref b/\H l=some (.lst xs)/\H b=some (.lst zs)/\xs.length+zs.length<=sizeLine/\∀p,H p=none->Q (.ref p) (upd H p (.lst (xs++zs)))
theorem Zol:OpR X (binaryOp .Add) Zp2:=by
  intro pins s σ H x y v u Q I rx ry h
  obtain ⟨l,b,xs,zs,rfl,rfl,hH,hB,hz,q⟩:=h
  cases rx
  cases ry
  obtain ⟨z,its,n,r,hl,e⟩:=I.lstM hH
  obtain ⟨z2,its2,n2,r2,hl2,e2⟩:=I.lstM hB
  refine PySem.P.add_list e e2 ?_ (by rw[Qh,Qh]; omega)
  have ea:its.toArray++its2.toArray=(its++its2).toArray:=by simp
  rw[ea]
  exact ⟨.ref _,_,I.lnew (t':=s.toks) (r.append r2) (by rw[Qd]; omega),rfl,q _ I.fresh⟩
end
section
variable{prog:Program}{w:World}{A:Around}{E:Value->Shared->Prop}{s:Shared}
end
section
variable{X:Cx}
end
end L2
namespace Att
open PySem PySem.W PySem.Calls PyProof.Rows
theorem Ze0{P:Params}{h:Heap}:∀(ns:List Int) (vs:List Value),WellAll P h vs (ns.map WData.int)->IntsAre vs ns:=by
  intro ns
  induction ns with
  | nil =>
    intro vs w
    rw[List.map_nil] at w
    cases w
    exact .nil
  | cons n ns ih =>
    intro vs w
    rw[Ww] at w
    cases w with
    | cons a b =>
      cases a
      exact .cons _ _ (ih _ b)
theorem script_of{l:OpenLaw}{n:Nat}(hn:l.most=some n){P:Params}{h:Heap}{args:List WData}{vals:List Value}
    (hpre:l.row.toRowW.claim.pre args=true) (hwl:WellAll P h vals args) :
    ∃a vs ns,vals=[Value.ref a]/\args=[WData.list (ns.map WData.int)]/\h.get? a=some { cls:=.type "list", data:=.seq vs.toArray }/\IntsAre vs ns/\ns.length<=n:=by
  have hsh:WShape.hasAll [] args [.list .int]=true:=(pre_splitW hpre).1
  have hc:l.pre.holds [] { args:=args }=true:=(pre_splitW hpre).2
  obtain ⟨d,r,rfl,h1,h2⟩:=hasAllW_cons hsh
  obtain rfl:=hasAllW_nil h2
  obtain ⟨xs,rfl,h3⟩:=hasW_list h1
  obtain ⟨ns,rfl⟩:=items_int h3
  have hlen:ns.length<=n:=by
    unfold OpenLaw.pre at hc
    have h4:(WTm.not (.lt (.lit (.int (n:Int))) (.len (.arg 0)))).holds [] { args:=[.list (ns.map .int)] }=true:=by
      have h4:=(holds_andW hc).1
      rw[hn] at h4
      exact h4
    have h5:=condW_of h4 (w_not (w_lt w_lit (w_len_list (w_arg rfl))))
    rw[Q1] at h5
    refine Nat.le_of_not_lt λq=>?_
    have q':(n:Int)<((ns.length:Nat):Int):=by omega
    first
      | (rw[decide_eq_true q'] at h5; exact absurd h5 ∅)
      | (simp at h5; omega)
  cases hwl with
  | cons w1 w2 =>
    cases w2
    cases w1 with
    | list ho hall=>exact ⟨_,_,ns,rfl,rfl,ho,Ze0 ns _ hall,hlen⟩
theorem post_true(l:OpenLaw)(args:List WData):l.row.toRowW.claim.post args (.bool true) args=true :=
  postW_of (r:=l.row.toRowW) (X:=(true==true))
    (show WShape.has [] (.bool true) .bool=true by first | rfl | decide | simp[WShape.has,WShape.arms,WShape.armsAll])
    (show (WTm.eq .res (.lit (.bool true))).value [] { args:=args,res:=some (.bool true),after:=args }=some (.bool (true==true)) from w_eq_bool (w_res rfl) w_lit) rfl
theorem attach_call{l:OpenLaw}{n:Nat}{q:Program}{loose:List Str}{XP:(Str->Option Value)->Heap->Prop}{YP:World->Heap->Prop}{d:DefRec}
    (hn:l.most=some n) (hdf:d.params.defaults=[])
    (call:∀(w:World) (s₀ s₁:Shared) (mg mb:Str->Option Value) (fa:Addr) (o:Obj) (pm cd doc:Value) (a:Addr) (vs:List Value) (ns:List Int),
      Ground q loose [] XP w s₀ mg mb s₁.heap->YP w s₁.heap →
      s₁.heap.get? fa=some o->o.data = .func (docDef d.name d.params d.body d.scope pm cd doc)->s₁.heap.CodeRec cd d.name->mg d.name=some (.ref fa) →
      s₁.heap.get? a=some { cls:=.type "list", data:=.seq vs.toArray }->IntsAre vs ns->ns.length<=n->s₁.gens=#[] →
      codeAny (model l.prog w) callerA (.call (.ref fa) ⟨[.ref a],[]⟩) (λr s'=>r = .ok (.ret (.bool true))/\OldK s₁.heap s'.heap/\s'.os=s₁.os/\AllBare s'.gens) s₁) :
    WalkO q loose XP YP l.row.toRowW d [] (λf vs=>PySem.call f vs):=by
  intro w s₀ s₁ mg mb G Y fa o pm cd doc dV kV ho hd hcd hD hmg hg args vals as hpre hlay hrd hwl hlo
  obtain rfl:dV = .none:=Dflts.none hD hdf
  obtain rfl:kV = .none:=Dflts.noKw hD
  obtain ⟨a,vs,ns,rfl,rfl,hobj,hints,hlen⟩:=script_of hn hpre hwl
  refine enter_call (codeAny_mono (call w s₀ s₁ mg mb fa o pm cd doc a vs ns G Y ho (fd_plain hd) hcd hmg hobj hints hlen hg) λr s' hq=>?_)
  obtain ⟨rfl,h2,h3,h4⟩:=hq
  exact ⟨.inl ⟨.bool true,.bool true,[],rfl,λ_=>rfl,.bool true,post_true l _,λ_=>⟨List.Pairwise.nil,λ_ hm=>(nomatch hm)⟩⟩,h2,h3,h4⟩
section
variable{prog:Program}{w:World}{A:Around}{E:Value->Shared->Prop}{s:Shared}{K:Frag}
def ZpF(h:Heap)(L d:Addr):List (Addr×Obj):=(List.range h.objs.size).filterMap λa=>if a=L\/a=d then none else (h.get? a).map λo=>(a,o)
end
end Att
namespace L2
open PySem PySem.Spec PyProof.Rows
theorem Zg3:∀ {vs:List Value} {ns:List Int},IntsAre vs ns->Vals (ns.map V.int) vs
  | _,_,.nil => .nil
  | _,_,.cons n t h => .cons ⟨t,rfl⟩ (Zg3 h)
def ZoT(H:Hp):Prop:=∀b,H b=none\/∃o xs,H b=some (.frz o (.lst xs))
theorem Ziv{P:Program}{w:World}{K:PySem.W.Frag}{mg mb:Str->Option Value}{CX:CXT}{k:Nat}{fa a:Addr}{fd:FuncData}{x:Str}{sp:Sp}{s₁:Shared}{vs:List Value}{ns:List Int}
    (KX:K.In s₁.heap) (hns:s₁.heap.Ns mainGlobals mg) (hb:s₁.heap.Ns builtinsNs mb) (hbb:∀x:Str,x ≠ "__name__" -> mb x=bootBuiltins x) (hlim:s₁.heap.NoLimit) (hg:s₁.gens=#[])
    (ha:s₁.heap.get? a=some { cls:=.type "list", data:=.seq vs.toArray }) (hi:IntsAre vs ns) (hl:ns.length<=sizeLine) (hr:Room k callerA)
    (F:∀base:Heap,K.In base->base.Ns mainGlobals mg->FnOk P w K mg base CX k fa fd [x] sp) (hbind:∀(s:Shared) (u:Value),BindsTo s fd ⟨[u],[]⟩ [(x,u)])
    (hsp:∀H:Hp,ZoT H->SqL K H a (ns.map V.int)->sp [.ref a] H (λv _=>v = .bl true) λ_ _ _=>False)
    (hCX:∀H e s',CX [] H s₁ (λ_ _ _=>False) e s'->False) :
    codeAny (model P w) callerA (.call (.ref fa) ⟨[.ref a],[]⟩) (λr s'=>r = .ok (.ret (.bool true))/\OldK s₁.heap s'.heap/\s'.os=s₁.os/\AllBare s'.gens) s₁:=by
  have rv:=Zg3 hi
  have lenV:=hi.length
  have core:∀H:Hp,ZoT H->SqL K H a (ns.map V.int)->HOk P w H s₁.heap->(∀b,H b≠none->b=a)->(H a≠none->K.lookup a=none) →
      codeAny (model P w) callerA (.call (.ref fa) ⟨[.ref a],[]⟩) (λr s'=>r = .ok (.ret (.bool true))/\OldK s₁.heap s'.heap/\s'.os=s₁.os/\AllBare s'.gens) s₁:=by
    intro H hO hS hok hA hK
    have base_of:∀ {b:Addr} {o:Obj},s₁.heap.get? b=some o->H b=none->(Zlr s₁.heap H).get? b=some o:=λe n=>Zls e n
    have noA:∀ {b:Addr} {o:Obj} {es:Array DictEntry} {ep:Nat},s₁.heap.get? b=some o->o.data = .dict es ep->H b=none:=fun {b o es ep} e d=>by
      cases q:H b with
      | none=>rfl
      | some u =>
        have e':b=a:=hA b (by rw[q]; simp)
        subst e'
        rw[ha] at e; cases e
        have d':Data.seq vs.toArray _=Data.dict es ep:=d
        cases d'
    have nsK:∀ {b:Addr} {m:Str->Option Value},s₁.heap.Ns b m->(Zlr s₁.heap H).Ns b m:=fun {b m} ⟨o,es,ep,e,d,r⟩=>⟨o,es,ep,base_of e (noA e d),d,r⟩
    have hKb:K.In (Zlr s₁.heap H):=λb o e=>base_of (KX b o e) (by
      cases q:H b with
      | none=>rfl
      | some u =>
        have e':b=a:=hA b (by rw[q]; simp)
        subst e'
        rw[hK (by rw[q]; simp)] at e; cases e)
    have hM:Mod K mg (Zlr s₁.heap H):=⟨hKb,nsK hns,⟨mb,nsK hb,hbb⟩,let ⟨mc,h1,h2⟩:=hlim; ⟨mc,nsK h1,h2⟩⟩
    have e0:Env0 P w K mg (Zlr s₁.heap H) callerA [] s₁ H:=⟨rfl,hM,λb o e=>ZmR e,Wx (ZjE _ _),trivial,λb hb=>absurd (show b∈([]:List Addr) from hb) (by simp),hok,.of_eq hg⟩
    refine codeAny_mono ((F _ hKb (nsK hns)).run callerA [] s₁ H ⟨[.ref a],[]⟩ [.ref a] [.ref a] _ _ hr e0 (hbind s₁ (.ref a)) (.cons rfl .nil) (hsp H hO hS)) λr s' h=>?_
    cases r with
    | error e=>exact (hCX H e s' h).elim
    | ok fl =>
      cases fl with
      | next=>exact False.elim h
      | brk=>exact False.elim h
      | cont=>exact False.elim h
      | ret u =>
        obtain ⟨v,H',os,bare,un,hok',r',q⟩:=h
        have q':v = .bl true:=q
        subst q'
        obtain rfl:u=Value.bool true:=r'
        refine ⟨rfl,OldK.of_keep λb o e=>?_,os,bare⟩
        cases q:H b with
        | none=>exact un.keep b o e q (by intro z; exact absurd (show b∈([]:List Addr) from z) (by simp)) (by simp)
        | some u =>
          rcases hO b with z | ⟨ob,xs,z⟩
          · rw[q] at z; cases z
          · have z2:=un.frzs b ob _ z
            obtain ⟨e1,_⟩:=hok b _ z
            obtain ⟨e2,_⟩:=hok' b _ z2
            rw[e] at e1; cases e1
            exact e2
  cases hk:K.lookup a with
  | some o =>
    have e:=KX a o hk
    rw[ha] at e
    cases e
    refine core (λ_=>none) (λ_ => .inl rfl) (.inr ⟨_,vs.toArray,_,hk,rfl,rfl,rfl,by rw[Qh,lenV]; exact hl,by simpa using rv⟩) (λb u z=>by have z':(none:Option HO)=some u:=z; cases z') (λb z=>absurd rfl z) λz=>absurd rfl z
  | none =>
    refine core (λb=>if b=a then some (.frz { cls:=.type "list", data:=.seq vs.toArray } (.lst (ns.map V.int))) else none) (λb=>?_) (.inl (.inr ⟨{ cls:=.type "list", data:=.seq vs.toArray },if_pos rfl⟩)) (λb u z=>?_) (λb z=>?_) λ_=>hk
    · by_cases hb:b=a
      · exact .inr ⟨_,_,if_pos hb⟩
      · exact .inl (if_neg hb)
    · by_cases hb:b=a
      · have z':=(if_pos hb).symm.trans z
        cases z'
        subst hb
        exact ⟨ha,by rw[Q1]; exact hl,vs,_,rv,ha⟩
      · have z':=(if_neg hb).symm.trans z
        cases z'
    · by_cases hb:b=a
      · exact hb
      · exact absurd (if_neg hb) z
end L2
namespace L2
open PySem PySem.Spec PyProof.Rows
abbrev KOf{K:PySem.W.Frag}{h:Heap}(_:K.In h):PySem.W.Frag:=K
theorem walk_of{l:PySem.W.OpenLaw}{n k:Nat}{q:Program}{loose:List Str}{XP:(Str->Option Value)->Heap->Prop}{YP:World->Heap->Prop}{d:DefRec}{K:Params->PySem.W.Frag}{CX:World->CXT}{sp:World->Sp}{x:Str}
    (hn:l.most=some n) (hn2:n<=sizeLine) (hdf:d.params.defaults=[]) (hr:Room k callerA)
    (hY:∀(w:World) (h:Heap),YP w h->(K w.params).In h)
    (F:∀(w:World) (mg:Str->Option Value) (fa:Addr) (h:Heap),(K w.params).In h->h.Ns mainGlobals mg->mg d.name=some (.ref fa) →
      ∃fd:FuncData,(∀(s:Shared) (u:Value),BindsTo s fd ⟨[u],[]⟩ [(x,u)]) ∧
        ∀base:Heap,(K w.params).In base->base.Ns mainGlobals mg->FnOk l.prog w (K w.params) mg base (CX w) k fa fd [x] (sp w))
    (hsp:∀(w:World) (H:Hp) (a:Addr) (ns:List Int),ns.length<=n->ZoT H->SqL (K w.params) H a (ns.map V.int)->sp w [.ref a] H (λv _=>v = .bl true) λ_ _ _=>False)
    (hCX:∀(w:World) (H:Hp) (s:Shared) (e:Value) (s':Shared),CX w [] H s (λ_ _ _=>False) e s'->False) :
    PySem.W.WalkO q loose XP YP l.row.toRowW d [] (λf vs=>PySem.call f vs):=by
  refine Att.attach_call hn hdf λw s₀ s₁ mg mb fa o pm cd doc a vs ns G Y ho hd hcd hmg hobj hints hlen hg=>?_
  have KX:=hY w _ Y
  obtain ⟨fd,hb,hF⟩:=F w mg fa _ KX G.T.g hmg
  exact Ziv KX G.T.g G.T.b G.T.builtins G.T.nolimit hg hobj hints (Q0 hlen hn2) hr hF hb (λH hO hS=>hsp w H a ns hlen hO hS) λH e s'=>hCX w H s₁ e s'
end L2
/- THE LAST THEOREM (shape; LID,My.* are yours):
   My.Adr: a structure of the addresses that your layer names (classes,functions); My.Txt K t: a structure (Prop) of the equations over K;
   My.txt_mk:{K} {implicit addresses ..} (e1:nsIn K mainGlobals "law" = some (some (.ref f))) (e2:K.lookup f=some ⟨oc,od,.func (fnOf "law" "law" params body scope dV kV doc pm an cdv ct),sl⟩) (e3:codeIn K cdv "law" = true) ..:∃t,My.Txt K t
set_option maxRecDepth 100000 in
set_option maxHeartbeats 0 in
theorem PySem.Challenge.cw_LID_holds : PySem.Challenge.rw_LID.Holds := by
  w_on; o_law; k_head; (case hw=>w_witness2)
  k_fill
  refine L2.walk_of (l:=PySem.Challenge.rw_LID) (n:=63) (k:=40) (x := "script") (CX:=λw => ..) (sp:=λ_=>My.sp_law) rfl ∅ rfl ⟨rfl,∅,∅⟩ (λw h Y=>PySem.W.kIn_of Y) ?F ?S ?C
  case F =>
    intro w mg fa h KX G hmg
    have T:∃t,My.Txt (L2.KOf KX) t:=by
      dsimp only[L2.KOf]                          -- K must stand as «<heap const> w.params» for k_is
      refine' My.txt_mk ?e1 ?e2 ?e3 ..
      (case e1=>PySem.W.k_is)                    -- in the order: a name -> its address -> its object -> its parts
      (case e2=>PySem.W.k_is)
      ..
    obtain ⟨t,T⟩:=T
    have e0:=hmg.symm.trans (PySem.W.mg_of KX G T.law)
    cases e0                                       -- fa is the law's own address
    exact ⟨_,λs u => .of_eq rfl,λbase kb nb=>My.law_fn T kb nb⟩     -- if «.of_eq rfl» comes too early: refine' ⟨_,?b,λbase kb nb=>My.law_fn T kb nb⟩; exact λs u => .of_eq rfl
  case S=>exact λw H a ns hl hO hS => ..
  case C=>exact ..
(the tactic k_is has no namespace: write k_is) -/
namespace L2
open PySem PySem.Spec PyProof.Rows
def Za1(s:Stmt)(j:Nat):Stmt:=match s with
  | .ClassDef _ _ _ body _ _ _ _ _ _ _=>body.getD j (.Pass ⟨0,0,0,0⟩)
  | _ => .Pass ⟨0,0,0,0⟩
def ZbS(s:Stmt):Arguments:=match s with
  | .FunctionDef _ a _ _ _ _ _ _ _ _=>a
  | _=>{ posonlyargs:=[],args:=[],vararg:=none,kwonlyargs:=[],kw_defaults:=[],kwarg:=none,defaults:=[] }
def Zbi(s:Stmt):List Stmt:=match s with
  | .FunctionDef _ _ b _ _ _ _ _ _ _=>b
  | _=>[]
def Zag(s:Stmt):Scope:=match s with
  | .FunctionDef _ _ _ _ _ _ sc _ _ _=>sc
  | _=>{ kind:=.function,names:=[],isGenerator:=false,isCoroutine:=false }
abbrev CX0:CXT:=λ_ _ _ _ _ _=>False
abbrev E0:XK:=λ_ _ _=>False
theorem Zm8{X:Cx}:ZgW CX0 X E0:=λ_ _ _ _ _ _ _ h=>h.elim
structure Fun (K:PySem.W.Frag) (x qual:Str) (st:Stmt) (f:Addr) (fd:FuncData):Prop where
  ex:∃(oc:Value) (od:Option Addr) (kV doc pm:Value) (an:Option Addr) (cdv ct:Value) (osl:Array (Option Value)),
    fd=PySem.W.fnOf x qual (ZbS st) (Zbi st) (Zag st) .none kV doc pm an cdv ct/\K.lookup f=some ⟨oc,od,.func fd,osl⟩/\PySem.W.codeIn K cdv qual=true
  kp:PySem.W.keepIn K (.ref f)=true
section
variable{P:Program}{w:World}{K:PySem.W.Frag}{mg:Str->Option Value}{base:Heap}
theorem Fun.ok{x qual:Str}{st:Stmt}{f:Addr}{fd:FuncData}{N ps:List Str}{k:Nat}{sp:Sp}(F:Fun K x qual st f fd)(S:FnScope N ps (Zag st))(len:∀vs H Q E,sp vs H Q E->vs.length=ps.length)
    (hbody:∀(cdv:Value) (A:Around) (outer:List Env) (s:Shared) (H:Hp) (vs:List V) (Q:VK) (E:XK),Room k (A.deeper (envOfC qual (Zag st) s.heap.objs.size f cdv))->sp vs H Q E →
      ∃t,PSs (Zm0 CX0 P w K mg base N qual (Zag st) f cdv A outer s H E).nox (Zbi st) t/\t { nx:=λ_ H'=>Q .non H',rt:=Q } (start N vs) H):FnOk P w K mg base CX0 (k+1) f fd ps sp:=by
  obtain ⟨oc,od,kV,doc,pm,an,cdv,ct,osl,rfl,lk,hcd⟩:=F.ex
  refine Zm1 lk hcd S len λA outer s H vs Q E hr hsp=>?_
  obtain ⟨t,h,q⟩:=hbody cdv A outer s H vs Q E hr hsp
  exact ⟨t,h.nox,q⟩
theorem Fun.binds{x qual:Str}{st:Stmt}{f:Addr}{fd:FuncData}{ps:List Str}(F:Fun K x qual st f fd)
    (h:∀(kV doc pm:Value) (an:Option Addr) (cdv ct:Value) (us:List Value),us.length=ps.length->bindArgs (PySem.W.fnOf x qual (ZbS st) (Zbi st) (Zag st) .none kV doc pm an cdv ct) ⟨us,[]⟩=pure (ps.zip us)):Binds K fd ps []:=by
  obtain ⟨oc,od,kV,doc,pm,an,cdv,ct,osl,rfl,lk,hcd⟩:=F.ex
  exact .all (h kV doc pm an cdv ct)
theorem Ziw{x qual:Str}{st:Stmt}{f:Addr}{oc:Value}{od an:Option Addr}{osl:Array (Option Value)}{kV doc pm cdv ct:Value}(l:K.lookup f=some ⟨oc,od,.func (PySem.W.fnOf x qual (ZbS st) (Zbi st) (Zag st) .none kV doc pm an cdv ct),osl⟩)
    (c:PySem.W.codeIn K cdv qual=true) (k:PySem.W.keepIn K (.ref f)=true):Fun K x qual st f (PySem.W.fnOf x qual (ZbS st) (Zbi st) (Zag st) .none kV doc pm an cdv ct):=⟨⟨oc,od,kV,doc,pm,an,cdv,ct,osl,rfl,l,c⟩,k⟩
end
theorem ZcN{n:Nat}(h:n<=1000):n<sizeLine:=Qc h ∅
section
variable{X:Cx}
theorem pv(i:Nat){x:Str}{pos:Pos}(hN:X.N[i]?=some x:=by rfl)(hv:Vis X.env.scope x:=by first | exact Or.inl rfl | exact Or.inr (Or.inl rfl) | exact Or.inr (Or.inr rfl))(hd:(x==("__debug__" : Str))=false:=by decide)
    (hcd:(x==("__classdict__" : Str))=false:=by decide):PE X (.Name x pos) (ZoV i):=Zn8 hN hv hd hcd
end
theorem ZeF{A B:Prop}(h:B):if false=true then A else B:=by
  rw[if_neg Qo]
  exact h
theorem ZfG{A B:Prop}(h:A):if true=true then A else B:=by
  rw[if_pos rfl]
  exact h
theorem Zp3{c A B:Prop}[Decidable c](h1:c->A)(h2:¬c->B):if c then A else B:=by
  by_cases h:c
  · rw[if_pos h]
    exact h1 h
  · rw[if_neg h]
    exact h2 h
def Same(H H':Hp):Prop:=∀b o,H b=some o->H' b=some o
theorem Same.refl(H:Hp):Same H H:=λ_ _ h=>h
theorem Same.trans{H H1 H2:Hp}(a:Same H H1)(b:Same H1 H2):Same H H2:=λc o h=>b c o (a c o h)
theorem Same.free{H H':Hp}(e:Same H H'){l:Addr}(h:H' l=Option.none):H l=Option.none:=by
  cases q:H l with
  | none=>rfl
  | some o =>
    rw[e l o q] at h
    cases h
theorem Same.seq{K:PySem.W.Frag}{H H':Hp}{a:Addr}{xs:List V}(e:Same H H')(h:SqL K H a xs):SqL K H' a xs:=by
  rcases h with (h | ⟨o,h⟩) | h
  · exact .inl (.inl (e _ _ h))
  · exact .inl (.inr ⟨o,e _ _ h⟩)
  · exact .inr h
end L2
set_option maxHeartbeats 4000000
namespace L2
open PySem PySem.Spec PyProof.Rows
theorem Zdw{k:Int}{n:Nat}(h:k.natAbs<2^n):Builtin.Int.intBits k<=n:=by
  unfold Builtin.Int.intBits
  split
  · exact Qk _
  · rename_i h0
    have hk:k.natAbs≠0:=by
      intro z
      apply h0
      have:k=0:=by omega
      simp[this]
    have:k.natAbs.log2<n:=(Nat.log2_lt hk).mpr h
    omega
theorem ZhB:10^150<2^600:=by decide +kernel
theorem ZbF{i j:Int}(h:i.natAbs<=10^150)(h':j.natAbs<=10^150):IntMulOk i j :=
  .of_bits (Q0 (Zdw (n:=600) (Qc h ZhB)) ∅) (Q0 (Zdw (n:=600) (Qc h' ZhB)) ∅)
theorem Zm9{j:Int}(h:j.natAbs<=10^150):j.natAbs.log2<9000:=by
  rcases Uf j.natAbs with z | z
  · rw[z]; decide
  · exact U4 ((Nat.log2_lt (Uc z)).mpr (Qc h ZhB)) ∅
section
variable{X:Cx}
theorem ZaB:OpR X (binaryOp .Mult) (rI IntMulOk λi j => .int (i*j)):=opI λ_ _ _ _ _ _ _ hc q=>mul_int q hc
theorem Zf4:OpR X (binaryOp .FloorDiv) (rI (λ_ j=>j≠0/\j.natAbs<=10^150) λi j => .int (i.fdiv j)):=opI λ_ _ _ _ _ _ _ hc q=>floordiv_int hc.1 q (.inl (PyProof.noPylong_of_log2 (Zm9 hc.2)))
theorem Zg4{x:Str}{T:String}{pos:Pos}(hg:Gl X x)(hm:X.mg x=none)(hv:bootBuiltins x=some (.type T))(hn:x ≠ "__name__" := by decide) (hd:(x==("__debug__" : Str))=false:=by decide):PE X (.Name x pos) (tC (.ty T)):=ZmT hg hm hv rfl hn hd
theorem Zcp:CallR X (.builtin "isinstance") (λxs H Q=>∃x T t b,xs=[x,.ty T]/\Zit X.K H x t/\PySem.W.kitOne X.K t (.type T)=some b/\Q (.bl b) H):=by
  intro pins s σ H xs us Q I r h
  obtain ⟨x,T,t,b,rfl,ty,hk,q⟩:=h
  obtain ⟨u,w',rfl,r1,r2⟩:=Zi2 r
  cases r2
  exact ZjO I r1 ty hk λtk=>⟨.bl b,H,I.tok _,rfl,q⟩
end
theorem ZdO(K:PySem.W.Frag)(t:Value)(h:(t==t)=true:=by rfl):PySem.W.kitOne K t t=some true:=by
  unfold PySem.W.kitOne
  rw[if_pos h]
theorem ZlF(K:PySem.W.Frag){t T:String}{b:Bool}(h0:((Value.type t)==(Value.type T))=false)(h1:PySem.W.kitMeta T=true)(h:(PySem.fastBuiltinMro t).map (·.contains (Value.type T))=some b):PySem.W.kitOne K (.type t) (.type T)=some b:=by
  unfold PySem.W.kitOne PySem.W.kitCls
  rw[if_neg (by rw[h0]; exact Qo)]
  show (if PySem.W.kitMeta T=true then PySem.W.subIn K (Value.type t) (Value.type T) else none)=some b
  rw[if_pos h1]
  exact h
theorem Zev(K:PySem.W.Frag):PySem.W.kitOne K (.type "int") (.type "bool")=some false:=ZlF K (by decide +kernel) (by decide +kernel) (by decide +kernel)
section
variable{A B:Prop}
theorem Za3{p:Prop}[Decidable p](h1:p->A)(h2:¬p->B):if decide p=true then A else B:=Zp3 (λc=>h1 (of_decide_eq_true c)) λc=>h2 (of_decide_eq_false (Bool.eq_false_iff.mpr c))
theorem ZjU{p:Prop}[Decidable p](h1:¬p->A)(h2:p->B):if (!decide p)=true then A else B:=by
  by_cases h:p
  · rw[decide_eq_true h]; exact ZeF (h2 h)
  · rw[decide_eq_false h]; exact ZfG (h1 h)
theorem ZbC{a b:Int}(h1:a=b->A)(h2:a≠b->B):if decide (V.int a=V.int b)=true then A else B:=Za3 (λe=>h1 (V.int.inj e)) λe=>h2 λz=>e (by rw[z])
theorem ZcO{a b:Int}(h1:a≠b->A)(h2:a=b->B):if (!decide (V.int a=V.int b))=true then A else B:=ZjU (λe=>h1 λz=>e (by rw[z])) λe=>h2 (V.int.inj e)
end
theorem ZlG{a b:Int}(h:a=b):decide (V.int a=V.int b)=true:=decide_eq_true (by rw[h])
theorem ZhC(a b:Int):decide (V.int a=V.int b)=decide (a=b):=by
  by_cases h:a=b
  · rw[decide_eq_true h,ZlG h]
  · rw[decide_eq_false h,decide_eq_false λz=>h (V.int.inj z)]
structure Here (K:PySem.W.Frag) (mg:Str->Option Value) (x:Str) (st:Stmt):Prop where
  ex:∃(f:Addr) (fd:FuncData),Fun K x x st f fd/\mg x=some (.ref f)
structure Has (P:Program) (w:World) (K:PySem.W.Frag) (mg:Str->Option Value) (base:Heap) (x:Str) (k:Nat) (ps:List Str) (sp:Sp):Prop where
  ex:∃(f:Addr) (fd:FuncData),FnOk P w K mg base CX0 k f fd ps sp/\mg x=some (.ref f)/\PySem.W.keepIn K (.ref f)=true/\Binds K fd ps []
section
variable{P:Program}{w:World}{K:PySem.W.Frag}{mg:Str->Option Value}{base:Heap}{x:Str}{st:Stmt}{k j:Nat}{ps:List Str}{sp:Sp}
theorem Has.mono(h:Has P w K mg base x j ps sp)(e:j<=k):Has P w K mg base x k ps sp :=
  let ⟨f,fd,a,b,c,d⟩:=h.ex
  ⟨f,fd,a.mono e,b,c,d⟩
theorem Here.has(h:Here K mg x st)(b:∀f fd,Fun K x x st f fd->Binds K fd ps [])(ok:∀f fd,Fun K x x st f fd->FnOk P w K mg base CX0 k f fd ps sp):Has P w K mg base x k ps sp :=
  let ⟨f,fd,F,m⟩:=h.ex
  ⟨f,fd,ok f fd F,m,F.kp,b f fd F⟩
theorem here_mk{h:Heap}{f:Addr}{oc:Value}{od an:Option Addr}{osl:Array (Option Value)}{kV doc pm cdv ct:Value}(X:K.In h)(G:h.Ns mainGlobals mg)(a:PySem.W.nsIn K mainGlobals x=some (some (.ref f)))
    (l:K.lookup f=some ⟨oc,od,.func (PySem.W.fnOf x x (ZbS st) (Zbi st) (Zag st) .none kV doc pm an cdv ct),osl⟩)
    (c:PySem.W.codeIn K cdv x=true) (k:PySem.W.keepIn K (.ref f)=true):Here K mg x st:=⟨f,_,Ziw l c k,PySem.W.mg_of X G a⟩
end
theorem Zao{X:Cx}{x:Str}{k:Nat}{ps:List Str}{sp:Sp}{e:Expr}{es:List Expr}{t:TA}{p pos:Pos}(h:Has X.prog X.w X.K X.mg X.base x k ps sp)(hr:Room k X.A)(hg:Gl X x)(ha:PA X (e::es) t)(hdb:(x==("__debug__" : Str))=false:=by decide)
    (he:starEach (e::es) X.env=(false,eval e X.env)::starEach es X.env:=by rfl) (hpl:(backTo pos (starEach es X.env)).any (·.1)=false:=by rfl):PE X (.Call (.Name x p) (e::es) [] pos) (Zog sp [] E0 t):=by
  obtain ⟨f,fd,F,hm,hk,hb⟩:=h.ex
  exact ZmY F hr hg hm hk hb .nil Zm8 ha hdb he hpl
theorem Zah{H:Hp}{p:Addr}(h:H p=none)(o:HO):Same H (upd H p o):=λb u q=>by rw[Zas (ZaF q h)]; exact q
theorem Same.tup{K:PySem.W.Frag}{H H':Hp}{a:Addr}{xs:List V}(e:Same H H')(h:SqT K H a xs):SqT K H' a xs:=by
  rcases h with (h | ⟨o,h⟩) | h
  · exact .inl (.inl (e _ _ h))
  · exact .inl (.inr ⟨o,e _ _ h⟩)
  · exact .inr h
end L2
namespace L2
open PySem PySem.Spec PyProof.Rows
def ZgR(cells:List (Str×Addr)):List (Str×NameKind)->List (Str×Addr)->List (Str×Addr)
  | [],cs=>cs
  | (n,k)::r,cs=>ZgR cells r (if k=NameKind.free then (match cells.lookup n with | some a=>(n,a)::cs | none=>cs) else cs)
theorem ZdP{cells:List (Str×Addr)}:∀(ns:List (Str×NameKind)) (cs:List (Str×Addr)),(∀p∈cs,cells.lookup p.1=some p.2)->∀p∈ZgR cells ns cs,cells.lookup p.1=some p.2
  | [],_,h=>h
  | (n,k)::r,cs,h=>by
    refine ZdP r _ λp hp=>?_
    by_cases hk:k=NameKind.free
    · rw[if_pos hk] at hp
      cases e:cells.lookup n with
      | none=>rw[e] at hp; exact h p hp
      | some a =>
        rw[e] at hp
        rcases Q8.mp hp with rfl | hp
        · exact e
        · exact h p hp
    · rw[if_neg hk] at hp
      exact h p hp
theorem Zix{cells:List (Str×Addr)}:∀(ns:List (Str×NameKind)) (cs:List (Str×Addr)),∀p∈cs,p∈ZgR cells ns cs
  | [],_,_,h=>h
  | (n,k)::r,cs,p,h=>by
    refine Zix r _ p ?_
    by_cases hk:k=NameKind.free
    · rw[if_pos hk]
      cases e:cells.lookup n with
      | none=>exact h
      | some a=>exact W3 _ h
    · rw[if_neg hk]; exact h
theorem ZdQ{cells:List (Str×Addr)}{x:Str}:∀(ns:List (Str×NameKind)) (cs:List (Str×Addr)),(x,NameKind.free)∈ns->(∃c,cells.lookup x=some c)->∃c,(x,c)∈ZgR cells ns cs
  | (n,k)::r,cs,h,hc=>by
    rcases Q8.mp h with e | h
    · cases e
      obtain ⟨c,hc⟩:=hc
      refine ⟨c,Zix r _ _ ?_⟩
      rw[if_pos rfl,hc]
      exact Qv
    · exact ZdQ r _ h hc
theorem Zbj{β:Type}{x:Str}{c:β}:∀ {l:List (Str×β)},(x,c)∈l->∃d,l.lookup x=some d
  | (n,a)::r,h=>by
    by_cases hx:x=n
    · exact ⟨a,by simp[W0,hx]⟩
    · rcases Q8.mp h with e | h
      · cases e; exact absurd rfl hx
      · obtain ⟨d,hd⟩:=Zbj h
        refine ⟨d,?_⟩
        have hb:(x==n)=false:=beq_eq_false_iff_ne.mpr hx
        simp only[W0,hb]
        exact hd
theorem ZfR{env:Env}{α:Type}(k:List (Str×Addr)->Sem α):∀(ns:List (Str×NameKind)) (cs:List (Str×Addr)),(∀y,(y,NameKind.free)∈ns->∃c,env.cells.lookup y=some c) →
    (forIn ns cs (λ(x:Str×NameKind) (r:List (Str×Addr))=>if (x.2==NameKind.free)=true then (do let a ← cellOf env x.1; pure (ForInStep.yield ((x.1,a)::r))) else pure (ForInStep.yield r)):Sem _)=pure (ZgR env.cells ns cs)
  | [],cs,_=>rfl
  | (n,kd)::r,cs,h=>by
    have ih:=λcs=>ZfR k r cs λy hy=>h y (W3 _ hy)
    rw[List.forIn_cons]
    by_cases hk:kd=NameKind.free
    · subst hk
      obtain ⟨c,hc⟩:=h n Qv
      show ((cellOf env n >>= λa=>pure (ForInStep.yield ((n,a)::cs))) >>= _:Sem _)=_
      have hce:cellOf env n=pure c:=by unfold cellOf; rw[hc]
      rw[hce]
      show (forIn r ((n,c)::cs) _:Sem _)=_
      rw[ih]
      show _=pure (ZgR env.cells r (if NameKind.free=NameKind.free then (match env.cells.lookup n with | some a=>(n,a)::cs | none=>cs) else cs))
      rw[if_pos rfl,hc]
    · have hb:(kd==NameKind.free)=false:=by simpa using hk
      show ((if (kd==NameKind.free)=true then (do let a ← cellOf env n; pure (ForInStep.yield ((n,a)::cs))) else pure (ForInStep.yield cs)) >>= _:Sem _)=_
      rw[hb,if_neg Qo]
      show (forIn r cs _:Sem _)=_
      rw[ih]
      show _=pure (ZgR env.cells r (if kd=NameKind.free then _ else cs))
      rw[if_neg hk]
theorem Zd2{scope:Scope}{env:Env}(h:∀y,(y,NameKind.free)∈scope.names->∃c,env.cells.lookup y=some c):closureFor scope env=pure (ZgR env.cells scope.names []):=by
  unfold closureFor
  have:=ZfR (env:=env) (α:=List (Str×Addr)) pure scope.names [] h
  show (forIn scope.names [] (λ(x:Str×NameKind) (r:List (Str×Addr))=>if (x.2==NameKind.free)=true then (do let a ← cellOf env x.1; pure (ForInStep.yield ((x.1,a)::r))) else pure (ForInStep.yield r)) >>= λcs=>pure cs:Sem _)=_
  rw[this]
  rfl
theorem Zf5{scope:Scope}{env:Env}(h:(scope.names.all λy=>!(y.2==NameKind.free)||(env.cells.lookup y.1).isSome)=true):∀y,(y,NameKind.free)∈scope.names->∃c,env.cells.lookup y=some c:=λy hy=>by
  have e:(env.cells.lookup y).isSome=true:=List.all_eq_true.mp h (y,NameKind.free) hy
  exact Option.isSome_iff_exists.mp e
def CapsOk(X:Cx)(scope:Scope):List (Nat×Str)->Prop
  | []=>True
  | p::r=>(X.N[p.1]?=some p.2/\scope.names.lookup p.2=some .free/\(X.env.kindOf p.2=some .cell\/X.env.kindOf p.2=some .free))/\CapsOk X scope r
theorem CapsOk.mem{X:Cx}{scope:Scope}:∀ {caps:List (Nat×Str)},CapsOk X scope caps->∀p∈caps,X.N[p.1]?=some p.2/\scope.names.lookup p.2=some .free/\(X.env.kindOf p.2=some .cell\/X.env.kindOf p.2=some .free)
  | [],_,_,h=>nomatch h
  | _::_,⟨h1,h2⟩,p,h=>by
    rcases Q8.mp h with rfl | h
    · exact h1
    · exact h2.mem p h
def ZdR(X:Cx)(scope:Scope)(N:List Str)(s₀:Shared)(H₀:Hp)(C:Addr)(fp:List Addr):Cx where
  prog:=X.prog
  w:=X.w
  K:=X.K
  mg:=X.mg
  base:=X.base
  A:=X.A
  N:=N
  s₀:=s₀
  H₀:=H₀
  env:=compEnvC scope (ZgR X.env.cells scope.names []) C X.env
  outer:=X.stack
  stack:=X.stack
  ex:=fp
  fn:=λ_=>false
  calm:=X.calm
  pn:=[]
  xe:=λ_ _=>False
def st0(k:Nat)(caps:List (Nat×Str))(σ:St):St:=List.replicate k none++caps.map λp=>(σ[p.1]?).join
theorem Zew{prog:Program}{w:World}{A:Around}{R:Result->Shared->Prop}{s:Shared}{elt target iter:Expr}{scope:Scope}{pos:Pos}{it acc:Value}{env:Env}(I:Nat->Shared->Prop)
    (turn:∀n s,I n s->wpAny (model prog w) A (pyNext it) (λr s₁=>match r with
      | none=>R (.ok .next) s₁
      | some v=>wpAny (model prog w) A (letOwnedTupleGo target it v) (λ_ s₁=>wpAny (model prog w) A (assign target env v) (λ_ s₂=>wpAny (model prog w) A (eval elt env) (λx s₃ =>
          wpAny (model prog w) A (call (.builtin "list.append") [acc,x]) (λ_ s₄=>∃m,m<n/\I m s₄) (λ_ _=>False) s₃)
          (λ_ _=>False) s₂) (λ_ _=>False) s₁) (λ_ _=>False) s₁) (λ_ _=>False) s)
    (n:Nat) (h:I n s) :
    codeAny (model prog w) A (.compLoop (.ListComp elt [⟨target,iter,[],0⟩] scope pos) 0 it acc env) R s:=by
  refine codeAny_loop rfl I (λn s hI=>?_) n h
  show wpAny _ _ ((compTurn (.ListComp elt [⟨target,iter,[],0⟩] scope pos) 0 it acc env).onRaise (λx=>do noteFrame x env; theTreesLotGoes x)) _ _ s
  refine wpAny_noted ?_
  rw[compTurn_list1]
  refine wpAny_bind (wpAny_standAt (wpAny_bind (wpAny_mono (turn n s hI) (λr s₁ h₁=>?_) λ_ _ h'=>False.elim h')))
  cases r with
  | none=>exact wpAny_pure h₁
  | some v =>
    refine wpAny_bind (wpAny_mono h₁ (λ_ s₁ h₁=>?_) λ_ _ h'=>False.elim h')
    exact wpAny_bind (wpAny_mono h₁ (λ_ s₂ h₂=>wpAny_bind (wpAny_bind (wpAny_mono h₂ (λx s₃ h₃=>wpAny_bind (wpAny_mono h₃
      (λ_ s₄ h₄=>wpAny_pure (wpAny_pure ⟨rfl,h₄⟩)) λ_ _ h'=>False.elim h')) λ_ _ h'=>False.elim h'))) λ_ _ h'=>False.elim h')
def ZfS(k:Nat)(caps:List (Nat×Str))(g:TG)(te:TE)(σ:St)(J:It)(H:Hp)(Q:List V->Hp->Prop):Prop :=
  ∃W:Nat->Nat->List V->Hp->Prop,(∃m,W 0 m [] H)/\∀i m ys H',W i m ys H'->ys.length<=sizeLine/\((J.stop i H'/\Q ys H') ∨
    (J.go i H'/\ys.length<sizeLine/\∃N:V->Hp->Prop,(∀v H4,N v H4->∃m',m'<m/\W (i+1) m' (ys++[v]) H4) ∧
      ∀x H2,J.yld i H' x H2->g x (st0 k caps σ) H2 λσ2 H3=>(∀(i:Nat) v,(st0 k caps σ)[i]?=some (some v)->σ2[i]?=some (some v))/\te σ2 H3 N))
def Zna(k:Nat)(caps:List (Nat×Str))(wi:TI)(g:TG)(te:TE):TE:=λσ H Q=>wi σ H λJ H1=>ZfS k caps g te σ J H1 λys H2=>∀D,H2 D=none->Q (.ref D) (upd H2 D (.lst ys))
section
variable{X:Cx}{tg iter elt:Expr}{scope:Scope}{pos:Pos}{wi:TI}{g:TG}{te:TE}{own:List Str}{caps:List (Nat×Str)}
theorem Zex{scope:Scope}{env:Env}{x:Str}(hx:scope.names.lookup x=some .free):(relabel scope env).names.lookup x=some .cell\/(relabel scope env).names.lookup x=some .free:=by
  unfold relabel
  show (scope.names.map _).lookup x=_\/(scope.names.map _).lookup x=_
  generalize scope.names=ns at hx
  induction ns with
  | nil=>simp at hx
  | cons p r ih =>
    obtain ⟨n,k⟩:=p
    rw[Ww]
    by_cases hn:x=n
    · subst hn
      simp only[W0,beq_self_eq_true] at hx
      cases hx
      by_cases hc:((NameKind.free==NameKind.free)&&env.scope.kind == .function&&env.kindOf x==some .cell)=true
      · left
        show List.lookup x ((if _=true then (x,NameKind.cell) else (x,NameKind.free))::_)=_
        rw[if_pos hc]
        simp[W0]
      · right
        show List.lookup x ((if _=true then (x,NameKind.cell) else (x,NameKind.free))::_)=_
        rw[if_neg hc]
        simp[W0]
    · have hb:(x==n)=false:=beq_eq_false_iff_ne.mpr hn
      simp only[W0,hb] at hx
      have:=ih hx
      show List.lookup x ((if _=true then (n,NameKind.cell) else (n,k))::_)=_\/List.lookup x ((if _=true then (n,NameKind.cell) else (n,k))::_)=_
      split <;> (simp only[W0,hb]; exact this)
theorem Zey{scope:Scope}{env:Env}{x:Str}(hc:∀y∈scope.names,y.2 ≠ .cell)(hx:(relabel scope env).names.lookup x=some .cell\/(relabel scope env).names.lookup x=some .free):(x,NameKind.free)∈scope.names:=by
  unfold relabel at hx
  have hx:(scope.names.map λ(n,k)=>if (k==NameKind.free&&env.scope.kind == .function&&env.kindOf n==some .cell) then (n,NameKind.cell) else (n,k)).lookup x=some .cell\/(scope.names.map λ(n,k)=>if (k==NameKind.free&&env.scope.kind == .function&&env.kindOf n==some .cell) then (n,NameKind.cell) else (n,k)).lookup x=some .free:=hx
  generalize scope.names=ns at hx hc
  induction ns with
  | nil=>simp at hx
  | cons p r ih =>
    obtain ⟨n,k⟩:=p
    rw[Ww] at hx
    have hr:=λz=>ih z (λy hy=>hc y (W3 _ hy))
    by_cases hn:x=n
    · subst hn
      by_cases hk:k=NameKind.free
      · subst hk; exact Qv
      · have hb:(k==NameKind.free)=false:=by simpa using hk
        have hx':List.lookup x ((x,k)::List.map (λ(p:Str×NameKind)=>match p with | (n,k)=>if (k==NameKind.free&&env.scope.kind == .function&&env.kindOf n==some .cell)=true then (n,NameKind.cell) else (n,k)) r)=some .cell\/List.lookup x ((x,k)::List.map (λ(p:Str×NameKind)=>match p with | (n,k)=>if (k==NameKind.free&&env.scope.kind == .function&&env.kindOf n==some .cell)=true then (n,NameKind.cell) else (n,k)) r)=some .free:=by
          simpa [hb] using hx
        simp only[W0,beq_self_eq_true,Option.some.injEq] at hx'
        rcases hx' with e | e
        · exact absurd e (hc (x,k) Qv)
        · exact absurd e hk
    · have hb:(x==n)=false:=beq_eq_false_iff_ne.mpr hn
      refine W3 _ (hr ?_)
      have hx2:List.lookup x ((if (k==NameKind.free&&env.scope.kind == .function&&env.kindOf n==some .cell)=true then (n,NameKind.cell) else (n,k))::List.map (λ(p:Str×NameKind)=>match p with | (n,k)=>if (k==NameKind.free&&env.scope.kind == .function&&env.kindOf n==some .cell)=true then (n,NameKind.cell) else (n,k)) r)=some .cell\/List.lookup x ((if (k==NameKind.free&&env.scope.kind == .function&&env.kindOf n==some .cell)=true then (n,NameKind.cell) else (n,k))::List.map (λ(p:Str×NameKind)=>match p with | (n,k)=>if (k==NameKind.free&&env.scope.kind == .function&&env.kindOf n==some .cell)=true then (n,NameKind.cell) else (n,k)) r)=some .free:=hx
      split at hx2 <;> (simp only[W0,hb] at hx2; exact hx2)
end
end L2
namespace L2
open PySem PySem.Spec PyProof.Rows
section
variable{X:Cx}{tg iter elt:Expr}{scope:Scope}{pos:Pos}{wi:TI}{g:TG}{te:TE}{own:List Str}{caps:List (Nat×Str)}
theorem ZjV{pins:List (Addr×Obj)}{σ:St}{H:Hp}{s:Shared}{fp:List Addr}{C:Addr}{N:List Str}(I:Inv X pins σ H s)(hkind:scope.kind = .function)(hcell:∀y∈scope.names,y.2 ≠ .cell)
    (hfree:∀y,(y,NameKind.free)∈scope.names->∃c,X.env.cells.lookup y=some c) (hC:s.heap.objs.size<=C) (hf:∀b∈fp,Zip X pins H b) (hlt:∀b∈fp,b<s.heap.objs.size):(ZdR X scope N s H C fp).Ok:=by
  have sub:∀x c,(ZgR X.env.cells scope.names []).lookup x=some c->X.env.cells.lookup x=some c:=λx c e=>ZdP scope.names [] (λp hp=>(nomatch hp)) (x,c) (PySem.mem_of_lookup e)
  refine ⟨I.ok.mod,hkind,I.ok.glob,I.ok.blt,hC,λx y c h1 h2=>I.ok.inj x y c (sub x c h1) (sub y c h2),λx hx=>?_,λx c h=>(Qo h).elim,I.ok.hd,I.ok.frames,.inl rfl,λb hb=>⟨?_,λx c e=>(hf b hb).2.2.2.2.1 x c (sub x c e)⟩,I.bs,Q0 I.ok.bsz I.sz,λb o e hb=>?_,λb hb z=>?_,I.stack,I.stkFree⟩
  · obtain ⟨c,hc⟩:=ZdQ scope.names [] (Zey hcell hx) (hfree x (Zey hcell hx))
    exact Zbj hc
  · exact Qb (Q5 (hlt b hb) hC)
  · rcases (hf b hb).2.2.2.1 with z | z
    · exact I.ok.noex b o e z
    · exact absurd (Q5 (Heap.lt_size e) (Q0 I.ok.bsz z)) (Qx _)
  · rcases Q8.mp (I.stkSub b z) with e | e
    · exact (hf b hb).2.1 e
    · exact (hf b hb).2.2.1 e
theorem ZjW(k:Nat)(caps:List (Nat×Str))(σ:St):(st0 k caps σ).length=k+caps.length:=by
  unfold st0
  rw[Qd,Uv,Q1]
theorem ZjX{k:Nat}{caps:List (Nat×Str)}{σ:St}{i:Nat}{v:V}(h:(st0 k caps σ)[i]?=some (some v)):k<=i/\∃p,caps[i-k]?=some p/\σ[p.1]?=some (some v):=by
  unfold st0 at h
  by_cases hi:i<k
  · rw[Wh (by rw[Uv]; exact hi),List.getElem?_replicate,if_pos hi] at h
    cases h
  · have hk:k<=i:=U7.mp hi
    refine ⟨hk,?_⟩
    rw[Wg (by rw[Uv]; exact hk),Uv,Qg] at h
    cases e:caps[i-k]? with
    | none=>rw[e] at h; cases h
    | some p =>
      rw[e] at h
      refine ⟨p,rfl,?_⟩
      have h':(σ[p.1]?).join=some v:=Option.some.inj h
      cases q:σ[p.1]? with
      | none=>rw[q] at h'; cases h'
      | some o=>rw[q] at h'; cases o with
        | none=>cases h'
        | some w=>cases h'; rfl
theorem Zg5{pins:List (Addr×Obj)}{σ:St}{H:Hp}{s:Shared}{fp:List Addr}{it:Addr}{tn:Nat->Heap->Prop}{J:It}{E:Value->Shared->Prop}{RR:Value->Addr->Result->Shared->Prop}{QL:List V->Hp->Prop}
    (I:Inv X pins σ H s) (hc:X.calm=true) (T:Turn X.prog X.w X.K tg J fp it tn) (st:tn 0 s.heap) (hf:∀b∈fp,Zip X pins H b)
    (hkind:scope.kind = .function) (hcell:∀y∈scope.names,y.2 ≠ .cell) (hfree:∀y,(y,NameKind.free)∈scope.names->∃c,X.env.cells.lookup y=some c) (hcap:CapsOk X scope caps)
    (hg:∀s₀ H₀ C,PG (ZdR X scope (own++caps.map (·.2)) s₀ H₀ C fp) tg g) (he:∀s₀ H₀ C,PE (ZdR X scope (own++caps.map (·.2)) s₀ H₀ C fp) elt te)
    (hB:ZfS own.length caps g te σ J H QL)
    (fin:∀D C s' m ys H',s.heap.objs.size<=C->D≠C->s'.heap.Ns C m->Inv X pins σ (upd H' D (.lst ys)) s'->H' D=none->H' C=none->QL ys H'->RR (.ref D) C (.ok .next) s') :
    wpAny (model X.prog X.w) X.A (newList []) (λacc s₃=>wpAny (model X.prog X.w) X.A (newFunctionEnv scope X.env.globals (ZgR X.env.cells scope.names []) [] X.env.qual none .none (some X.env)) (λcenv s₄ =>
      codeAny (model X.prog X.w) X.A (.compStart (.ListComp elt [⟨tg,iter,[],0⟩] scope pos) 0 (.ref it) acc { cenv with scope:=relabel scope X.env }) (RR acc cenv.locals) s₄) E s₃) E s:=by
  refine wpAny_newObj_type (wpAny_newFunctionEnv hcell (by intro y hy; simp at hy) (λh₁ hns₁ hsb₁=>?_) hkind)
  dsimp only at hns₁ hsb₁ ⊢
  generalize hH2:s.heap.push { cls:=.type "list", dict:=none,data:=.seq ([]:List Value).toArray }=H2 at hns₁ hsb₁ ⊢
  have hC:H2.objs.size=s.heap.objs.size+1:=by rw[<-hH2,Heap.size_push]
  generalize hCC:H2.objs.size=C at *
  have hCle:s.heap.objs.size<=C:=by rw[hC]; exact Wo _
  generalize hDD:s.heap.objs.size=D at *
  have hDC:D≠C:=by rw[hC]; exact Qb (Ue _)
  have below:∀b,b<D->b≠C/\b≠D:=λb hb=>⟨by rw[hC]; exact Qb (Nat.lt_succ_of_lt hb),Qb hb⟩
  have lts:∀ {b o},s.heap.get? b=some o->b<D:=fun {b o} e=>by rw[<-hDD]; exact Heap.lt_size e
  have old:∀b o,s.heap.get? b=some o->h₁.get? b=some o:=λb o e=>hsb₁.extBut b o (below b (lts e)).1 (Heap.get?_push_of_some _ (hH2 ▸ Heap.get?_push_of_some _ e))
  have hacc:h₁.get? D=some { cls:=.type "list", data:=.seq ([]:List Value).toArray 0 }:=hsb₁.extBut _ _ hDC (Heap.get?_push_of_some _ (hH2 ▸ (hDD ▸ Heap.get?_push_size _ rfl)))
  have hlt:∀b∈fp,b<D:=λb hb=>let ⟨o,e,_⟩:=T.obj 0 _ st b hb; lts e
  have freshS:∀b,D<=b->s.heap.get? b=none:=λb hb=>by
    cases e:s.heap.get? b with
    | none=>rfl
    | some o=>exact absurd (lts e) (U7.mpr hb)
  have nH:∀b,D<=b->H b=none:=λb hb=>I.hok.fresh (by rw[hDD]; exact hb)
  let Y:Cx:=ZdR X scope (own++caps.map (·.2)) s H C fp
  have okY:Y.Ok:=ZjV I hkind hcell hfree (by rw[hDD]; exact hCle) hf (by rw[hDD]; exact hlt)
  have sub:∀x c,(ZgR X.env.cells scope.names []).lookup x=some c->X.env.cells.lookup x=some c:=λx c e=>ZdP scope.names [] (λp hp=>(nomatch hp)) (x,c) (PySem.mem_of_lookup e)
  have celllt:∀x c,X.env.cells.lookup x=some c->c<D:=λx c e=>by
    obtain ⟨v,o,ho,_⟩:=I.cell x c e
    exact lts ho
  have stklt:∀b∈frs X.stack,b<D:=λb hb=>by
    rcases Q8.mp (I.stkSub b hb) with e | e
    · rw[e,<-hDD]; exact I.lt
    · obtain ⟨_,o,ho,_⟩:=I.funs.mem e
      exact lts ho
  have I0:Inv Y [] (st0 own.length caps σ) H { s with heap:=h₁,toks:=s.toks+([]:List (Str×Value)).length }:=by
    refine ⟨okY,rfl,I.bare,Un.kept old,⟨_,hns₁,λi x v h1 h2 h3=>?_⟩,λx c e=>?_,nH C hCle,λx c e=>I.freeC x c (sub x c e),λp hp=>?_,I.hok.kept old,?_⟩
    · obtain ⟨hk,p,hp,hv⟩:=ZjX h2
      have h1':caps[i-own.length]?.map (·.2)=some x:=by
        have:(own++caps.map (·.2))[i]?=some x:=h1
        rw[Wg hk,Qg] at this
        exact this
      rw[hp] at h1'
      cases h1'
      obtain ⟨q1,q2,q3⟩:=hcap.mem p (Q9 hp)
      obtain ⟨m,hn,hl⟩:=I.loc
      obtain ⟨u,r,l⟩:=hl p.1 p.2 v q1 hv (by rcases q3 with z | z; exact .inr (.inl z); exact .inr (.inr z))
      refine ⟨u,r,.inr ⟨Zex q2,?_⟩⟩
      rcases l with ⟨z,_⟩ | ⟨_,c,hc',z⟩
      · rcases q3 with y | y <;> (rw[y] at z; cases z)
      · have hm:(p.2,NameKind.free)∈scope.names:=PySem.mem_of_lookup q2
        obtain ⟨d,hd⟩:=ZdQ scope.names [] hm ⟨c,hc'⟩
        obtain ⟨d',hd'⟩:=Zbj hd
        have e:=sub _ _ hd'
        rw[hc'] at e
        cases e
        obtain ⟨oc,ho,hdt⟩:=z
        exact ⟨c,hd',oc,old _ _ ho,hdt⟩
    · obtain ⟨v,o,ho,hd⟩:=I.cell x c (sub x c e)
      exact ⟨v,o,old _ _ ho,hd⟩
    · exact absurd (show p∈([]:List (Addr×Obj)) from hp) (by simp)
    · rw[ZjW]
      show _=(own++caps.map (·.2)).length
      rw[Qd,Q1]
  have pinD:∀ {its:List Value} {n:Nat} {σ':St} {H':Hp} {s':Shared},Inv Y [] σ' H' s'->H' D=none->s'.heap.get? D=some { cls:=.type "list", data:=.seq its.toArray n }->Inv Y [(D,{ cls:=.type "list", data:=.seq its.toArray n })] σ' H' s':=fun {its n σ' H' s'} J hn e =>
    J.pins_of λp hp=>by
      have ep:p=(D,{ cls:=.type "list", data:=.seq its.toArray n }):=Q6.mp hp
      subst ep
      refine ⟨e,hn,hDC,λz=>?_,λv z=>by cases z⟩
      exact absurd (stklt D z) (Qx _)
  obtain ⟨W,⟨m0,w0⟩,turn⟩:=hB
  have fpY:∀ {H':Hp} {pins':List (Addr×Obj)},(∀b∈fp,H' b=none)->(∀p∈pins',∀b∈fp,p.1≠b)->∀b∈fp,Zip Y pins' H' b:=fun {H' pins'} hn hp b hb =>
    ⟨hn b hb,(okY.exf b hb).1,okY.exfs b hb,.inl hb,(okY.exf b hb).2,λp q=>hp p (by simpa [Y,ZdR] using q) b hb⟩
  have loop:∀s₃:Shared,s₃={ s with heap:=h₁,toks:=s.toks+([]:List (Str×Value)).length } →
      codeAny (model X.prog X.w) X.A (.compLoop (.ListComp elt [⟨tg,iter,[],0⟩] scope pos) 0 (.ref it) (.ref D) (compEnvC scope (ZgR X.env.cells scope.names []) C X.env)) (RR (.ref D) C) s₃:=by
    rintro s₃ rfl
    refine Zew (λk s'=>∃(i:Nat) (ys:List V) (its:List Value) (n:Nat) (H':Hp),Inv Y [(D,{ cls:=.type "list", data:=.seq its.toArray n })] (st0 own.length caps σ) H' s'/\tn i s'.heap/\(∀b∈fp,H' b=none)/\Vals ys its/\W i k ys H') ?_ m0
      ⟨0,[],[],0,H,pinD I0 (nH D (Q4 _)) hacc,T.keep _ _ _ st λb _ o e=>old b o e,λb hb=>(hf b hb).1,.nil,w0⟩
    rintro k s3 ⟨i,ys,its,n,H3,I3,st3,fr3,rv,w3⟩
    obtain ⟨pD,nD,_⟩:=I3.pin (D,{ cls:=.type "list", data:=.seq its.toArray n }) (Qp _ Qv)
    have ff:=fpY (pins':=[(D,{ cls:=.type "list", data:=.seq its.toArray n })]) fr3 (λp hp b hb=>by
      rw[Q6.mp hp]; exact (Ne.symm (below b (hlt b hb)).2))
    obtain ⟨hsz,turn⟩:=turn i k ys H3 w3
    rcases turn with ⟨stop,q⟩ | ⟨go,hsz',NN,hNN,step⟩
    · refine thn (T.done Y rfl rfl rfl hc i _ s3 _ H3 _ I3 ff st3 stop) λr s4 ⟨hr,I4⟩=>?_
      subst hr
      obtain ⟨m4,hn4,_⟩:=I4.loc
      obtain ⟨pD4,nD4,_⟩:=I4.pin (D,{ cls:=.type "list", data:=.seq its.toArray n }) (Qp _ Qv)
      refine fin D C s4 m4 ys H3 hCle hDC hn4 ?_ nD4 I4.free q
      have hk:=I4.base
      have hok4:HOk X.prog X.w H3 s4.heap:=I4.hok
      have neD:∀b u,H3 b=some u->b≠D:=λb u e z=>by rw[z,nD4] at e; cases e
      refine I.call' (ch:=fp) I4.os ⟨λb o e n hb hx=>hk.keep b o e n hb hx,λb o e n hb hx=>hk.slot b o e n hb hx,λb o e n hx=>?_,λb o e hx=>hk.there b o e hx,λb xs e=>?_,λb o u e=>?_,λb ps e=>?_⟩ ?_ I4.bare ?_
      · rw[Zas (below b (lts e)).2]; exact hk.free b o e n hx
      · have:=hk.tups b xs e
        rw[Zas (neD b _ this)]; exact this
      · have:=hk.frzs b o u e
        rw[Zas (neD b _ this)]; exact this
      · obtain ⟨more,e'⟩:=hk.tbls b ps e
        exact ⟨more,by rw[Zas (neD b _ e')]; exact e'⟩
      · intro b u e
        by_cases hb:b=D
        · subst hb
          rw[Zaf] at e
          cases e
          exact ⟨hsz,its,n,rv,pD4⟩
        · rw[Zas hb] at e
          exact (hok4 b u e).stay (λc v _ q=>q) (λc q=>by rw[Zas (neD c _ q)]; exact q) λc xs q=>by rw[Zas (neD c _ q)]; exact q
      · intro b hb
        obtain ⟨_,f1,_,f3,f4,f5⟩:=hf b hb
        exact ⟨f3,f1,f4,f5⟩
    · refine thn (T.item Y rfl rfl rfl hc i _ s3 _ H3 _ I3 ff st3 go) λr s4 ⟨u,hr,h4⟩=>?_
      subst hr
      refine thn h4 λ_ s5 ⟨x,H5,I5,r5,y5,st5,fr5⟩=>?_
      have ff5:=fpY (pins':=[(D,{ cls:=.type "list", data:=.seq its.toArray n })]) fr5 (λp hp b hb=>by
        rw[Q6.mp hp]; exact (Ne.symm (below b (hlt b hb)).2))
      have I5':=I5.pinned ff5 (T.obj _ _ st5)
      refine thn (hg s H C _ s5 _ H5 x u _ I5' r5 (step x H5 y5)) λ_ s6 ⟨σ6,H6,I6,wk,q6⟩=>?_
      refine thn (he s H C _ s6 σ6 H6 _ I6 q6) λy s7 ⟨v,H7,I7,r7,n7⟩=>?_
      obtain ⟨m',hm,w7⟩:=hNN v H7 n7
      obtain ⟨pD7,nD7,_,_,_⟩:=I7.pin (D,{ cls:=.type "list", data:=.seq its.toArray n }) (Qp _ (Us _ Qv))
      refine append_at (n:=n) pD7 (λh' hs' hD'=>?_) (by rw[Qh,<-rv.length]; exact hsz)
      have st7:tn (i+1) s7.heap:=T.keep _ _ _ st5 λb hb o e=>(I7.pin (b,o) (Qp _ (Qp _ (ZbN hb e)))).1
      have fr7:∀b∈fp,H7 b=none:=λb hb=>by
        obtain ⟨o,e,d⟩:=T.obj _ _ st5 b hb
        exact (I7.pin (b,o) (Qp _ (Qp _ (ZbN hb e)))).2.1
      have I8:Inv Y [] σ6 H7 s7:=I7.pins_of λp hp=>(nomatch hp)
      have I9:Inv Y [] (st0 own.length caps σ) H7 s7:=I8.weak (by rw[I0.len,I8.len]) wk
      have I10:Inv Y [] (st0 own.length caps σ) H7 { s7 with heap:=h' }:=I9.turned (t':=s7.toks) (it:=D) (λb o hb e=>hs'.extBut b o hb e) nD7 hDC (.inr (Wx hDD)) (λx c e=>Qb (celllt x c (sub x c e))) (λp hp=>absurd (show p∈([]:List (Addr×Obj)) from hp) (by simp))
      refine ⟨m',hm,i+1,ys++[v],its++[y],n+1,H7,pinD I10 nD7 ?_,?_,fr7,rv.append (.cons r7 .nil),w7⟩
      · rw[hD',List.push_toArray]
      · exact T.keep _ _ _ st7 λb hb o e=>hs'.extBut b o (below b (hlt b hb)).2 e
  have tn1:tn 0 h₁:=T.keep _ _ _ st λb _ o e=>old b o e
  exact codeAny_compStart_list (loop _ rfl) (T.self _ 0 _ _ _ tn1 (loop _ rfl))
end
end L2
namespace L2
open PySem PySem.Spec PyProof.Rows
section
variable{X:Cx}{tg iter elt:Expr}{scope:Scope}{pos:Pos}{wi:TI}{g:TG}{te:TE}{own:List Str}{caps:List (Nat×Str)}
theorem Za2(own:List Str)(caps:List (Nat×Str))(hc:X.calm=true)(hi:PI X tg iter wi)(hg:∀fp s₀ H₀ C,PG (ZdR X scope (own++caps.map (·.2)) s₀ H₀ C fp) tg g)(he:∀fp s₀ H₀ C,PE (ZdR X scope (own++caps.map (·.2)) s₀ H₀ C fp) elt te)
    (hcap:CapsOk X scope caps)
    (hfr:(scope.names.all λy=>!(y.2==NameKind.free)||(X.env.cells.lookup y.1).isSome)=true:=by rfl)
    (hkind:scope.kind = .function:=by rfl) (hcell:∀y∈scope.names,y.2 ≠ .cell:=by decide +kernel)
    (hnames:∀y∈scope.names,y.2 = .local->scope.names.lookup y.1=some .local:=by decide +kernel) (hs:∀x,foldedSetIterable iter X.env x=pure x:=by intro _; rfl) :
    PE X (.ListComp elt [⟨tg,iter,[],0⟩] scope pos) (Zna own.length caps wi g te):=by
  intro pins s σ H Q I h
  have hfree:=Zf5 hfr
  have hclos:=Zd2 hfree
  rw[eval_ListComp]
  refine wpAny_comprehension_free (use:=none) rfl hs hclos hkind hnames (thn (hi pins s σ H _ I h) λv s1 h1=>thn h1 λitv s2 h2=>?_)
  obtain ⟨it,fp,tn,J,H2,e,I2,T,st2,f2,hB⟩:=h2
  subst e
  refine Zg5 (RR:=λacc C=>compPost (model X.prog X.w) X.A X.xe none (EP X pins σ Q) acc C) I2 hc T st2 f2 hkind hcell hfree hcap (hg fp) (he fp) hB ?_
  intro D C s' m ys H' hC hDC hn I3 nD nC q
  refine ⟨m,hn,λh' hs'=>⟨.ref D,upd H' D (.lst ys),?_,rfl,q D nD⟩⟩
  exact I3.turned (t':=s'.toks) (it:=C) (λb o hb e=>hs'.extBut b o hb e) (by rw[Zas (Ne.symm hDC)]; exact nC) (Ne.symm (Qb (Q5 I2.lt hC))) (.inr (Q0 I2.sz hC))
    (λx c e z=>by
      obtain ⟨v,o,ho,_⟩:=I2.cell x c e
      rw[z] at ho
      exact absurd (Q5 (Heap.lt_size ho) hC) (Qx _))
    (λp hp z=>by
      have:=(I2.pin p hp).1
      rw[z] at this
      exact absurd (Q5 (Heap.lt_size this) hC) (Qx _))
theorem ZbO{i:Nat}{x:Str}{pos' spos:Pos}(own:List Str)(caps:List (Nat×Str))(hN:X.N.Nodup)(hx1:X.N[i]?=some x)(hx:X.env.scope.names.lookup x=some .local)(hc:X.calm=true)(hi:PI X tg iter wi)
    (hg:∀fp s₀ H₀ C,PG (ZdR X scope (own++caps.map (·.2)) s₀ H₀ C fp) tg g) (he:∀fp s₀ H₀ C,PE (ZdR X scope (own++caps.map (·.2)) s₀ H₀ C fp) elt te)
    (hcap:CapsOk X scope caps)
    (hfr:(scope.names.all λy=>!(y.2==NameKind.free)||(X.env.cells.lookup y.1).isSome)=true:=by rfl)
    (hsw:swapsWith (.ListComp elt [⟨tg,iter,[],0⟩] scope pos) (some (.Name x pos')) spos.line X.env=pure true:=by rfl)
    (hkind:scope.kind = .function:=by rfl) (hcell:∀y∈scope.names,y.2 ≠ .cell:=by decide +kernel)
    (hnames:∀y∈scope.names,y.2 = .local->scope.names.lookup y.1=some .local:=by decide +kernel) (hs:∀x,foldedSetIterable iter X.env x=pure x:=by intro _; rfl) :
    PS X (.Assign [.Name x pos'] (.ListComp elt [⟨tg,iter,[],0⟩] scope pos) spos) (Zo2 (Zna own.length caps wi g te) (ZfZ i)):=by
  intro pins s σ H D0 I h
  have hfree:=Zf5 hfr
  have hclos:=Zd2 hfree
  rw[exec_Assign_Name_used _ _ _ _ hsw]
  refine wpAny_bind (wpAny_standAt (wpAny_bind ?_))
  show wpAny _ X.A (do let _ ← comprehension (.ListComp elt [⟨tg,iter,[],0⟩] scope pos) scope X.env _ (newList []) false (eval iter X.env) (some (assign (.Name x pos') X.env))) _ _ s
  refine wpAny_bind (wpAny_mono (wpAny_comprehension_free (use:=some (assign (.Name x pos') X.env)) (Q:=λ_ s'=>SP X pins D0 .next s') rfl hs hclos hkind hnames (thn (hi pins s σ H _ I h) λv s1 h1=>thn h1 λitv s2 h2=>?_)) (λ_ s' hq=>wpAny_pure (wpAny_pure hq)) λ_ _ e=>e)
  obtain ⟨it,fp,tn,J,H2,e,I2,T,st2,f2,hB⟩:=h2
  subst e
  refine Zg5 (RR:=λacc C=>compPost (model X.prog X.w) X.A X.xe (some (assign (.Name x pos') X.env)) (λ_ s'=>SP X pins D0 .next s') acc C) I2 hc T st2 f2 hkind hcell hfree hcap (hg fp) (he fp) hB ?_
  intro D C s' m ys H' hC hDC hn I3 nD nC q
  show wpAny _ X.A (assign (.Name x pos') X.env (.ref D)) _ _ _
  have hCl:C≠X.env.locals:=Ne.symm (Qb (Q5 I2.lt hC))
  have hCc:∀x c,X.env.cells.lookup x=some c->c≠C:=λx c e z=>by
    obtain ⟨v,o,ho,_⟩:=I2.cell x c e
    rw[z] at ho
    exact absurd (Q5 (Heap.lt_size ho) hC) (Qx _)
  refine wpAny_assign_Name (ZgS I3 hN hx1 (.inl hx) (v:=.ref D) rfl (λs4 I4 ⟨a,sb,ha⟩=>?_) (.inr hx))
  have hCa:C≠a:=by
    rcases ha with e | e
    · rw[e]; exact hCl
    · exact Ne.symm (hCc x a e)
  refine ⟨m,hn.sameBut sb hCa,λh' hs'=>⟨_,_,?_,q D nD⟩⟩
  exact I4.turned (t':=s4.toks) (it:=C) (λb o hb e=>hs'.extBut b o hb e) (by rw[Zas (Ne.symm hDC)]; exact nC) hCl (.inr (Q0 I2.sz hC)) hCc
    (λp hp z=>by
      have:=(I2.pin p hp).1
      rw[z] at this
      exact absurd (Q5 (Heap.lt_size this) hC) (Qx _))
theorem Zom{x:V}{cs:List (Option V)}:∀(i:Nat) v,((none:Option V)::cs)[i]?=some (some v)->((some x)::cs)[i]?=some (some v)
  | 0,v,h=>by simp at h
  | i+1,v,h=>by simpa using h
theorem ZaG{K:PySem.W.Frag}{a:Addr}{xs:List V}{σ:St}{H:Hp}{QL:List V->Hp->Prop}(Pv:Nat->List V->Hp->Prop)(hz:xs.length<=1000)(h0:Pv 0 [] H)(hl:∀i ys H,i<=xs.length->Pv i ys H->SqL K H a xs)
    (hs:∀i x ys H,xs[i]?=some x->ys.length=i->Pv i ys H->te (some x::caps.map λp=>(σ[p.1]?).join) H λv H'=>Pv (i+1) (ys++[v]) H') (hd:∀ys H,ys.length=xs.length->Pv xs.length ys H->QL ys H) :
    ZfS 1 caps (ZfZ 0) te σ (Itl K a) H QL:=by
  have hz':xs.length<sizeLine:=ZcN hz
  refine ⟨λi m ys H=>m=xs.length-i/\i<=xs.length/\ys.length=i/\Pv i ys H,⟨_,rfl,Qk _,rfl,h0⟩,?_⟩
  rintro i m ys H' ⟨rfl,hi,hy,p⟩
  have q:=hl i ys H' hi p
  refine ⟨⋯,?_⟩
  by_cases hlt:i<xs.length
  · refine .inr ⟨⟨xs,xs[i],q,by simp[hlt]⟩,⋯,λv H4=>Pv (i+1) (ys++[v]) H4,λv H4 p'=>⟨xs.length-(i+1),⋯,rfl,hlt,by rw[Qd,hy]; rfl,p'⟩,λx H2 y=>?_⟩
    obtain ⟨e,y⟩:=y
    subst e
    exact ⟨Zom,hs i x ys _ (y xs q) hy p⟩
  · have e:i=xs.length:=by omega
    subst e
    exact .inl ⟨⟨xs,q,Q4 _⟩,hd ys H' hy p⟩
theorem ZbP{lo:Int}{n:Nat}{σ:St}{H:Hp}{QL:List V->Hp->Prop}(Pv:Nat->List V->Hp->Prop)(hz:n<=1000)(h0:Pv 0 [] H)
    (hs:∀i ys H,i<n->ys.length=i->Pv i ys H->te (some (.int (lo+i))::caps.map λp=>(σ[p.1]?).join) H λv H'=>Pv (i+1) (ys++[v]) H') (hd:∀ys H,ys.length=n->Pv n ys H->QL ys H) :
    ZfS 1 caps (ZfZ 0) te σ (Itr lo n) H QL:=by
  have hz':n<sizeLine:=ZcN hz
  refine ⟨λi m ys H=>m=n-i/\i<=n/\ys.length=i/\Pv i ys H,⟨_,rfl,Qk _,rfl,h0⟩,?_⟩
  rintro i m ys H' ⟨rfl,hi,hy,p⟩
  refine ⟨⋯,?_⟩
  by_cases hlt:i<n
  · refine .inr ⟨hlt,⋯,λv H4=>Pv (i+1) (ys++[v]) H4,λv H4 p'=>⟨n-(i+1),⋯,rfl,hlt,by rw[Qd,hy]; rfl,p'⟩,λx H2 y=>?_⟩
    obtain ⟨e,y⟩:=y
    subst e y
    exact ⟨Zom,hs i ys _ hlt hy p⟩
  · have e:i=n:=by omega
    subst e
    exact .inl ⟨Q4 _,hd ys H' hy p⟩
end
end L2
namespace L2
open PySem PySem.Spec PyProof.Rows
structure HasM (P:Program) (w:World) (K:PySem.W.Frag) (mg:Str->Option Value) (base:Heap) (C:Addr) (m:Str) (k:Nat) (ps:List Str) (dvs:List V) (sp:Sp):Prop where
  ex:∃(f:Addr) (fd:FuncData) (ds:List Value),FnOk P w K mg base CX0 k f fd ps sp/\Meth K C m f/\Binds K fd ps ds/\Vals dvs ds
theorem HasM.mono{P:Program}{w:World}{K:PySem.W.Frag}{mg:Str->Option Value}{base:Heap}{C:Addr}{m:Str}{j k:Nat}{ps:List Str}{dvs:List V}{sp:Sp}(h:HasM P w K mg base C m j ps dvs sp)(e:j<=k):HasM P w K mg base C m k ps dvs sp :=
  let ⟨f,fd,ds,a,b,c,d⟩:=h.ex
  ⟨f,fd,ds,a.mono e,b,c,d⟩
def Zmz(P:Program)(w:World)(K:PySem.W.Frag)(mg:Str->Option Value)(base:Heap)(m:Str)(k:Nat)(ta:TE)(t:TA):TE:=λσ H Q=>ta σ H λx H1=>∃a C dx fs ps dvs sp,x = .ref a/\H1 a=some (.ins C dx fs)/\Cls K C/\HasM P w K mg base C m k ps dvs sp/\fs.lookup m=none ∧
  t σ H1 λvs H2=>sp (x::(vs++dvs)) H2 Q E0
section
variable{X:Cx}{k:Nat}{m x:Str}{p pos apos:Pos}{e o:Expr}{es:List Expr}{ta:TE}{t:TA}
theorem Zbz{pl:Sem Bool}(he:PE X o ta)(hr:Room k X.A)(ha:PA X (e::es) t)
    (hst:starEach (e::es) X.env=(false,eval e X.env)::starEach es X.env:=by rfl) (hpl:(backTo pos (starEach es X.env)).any (·.1)=false:=by rfl)
    (ht:eval (.Call (.Attribute o m apos) (e::es) [] pos) X.env=(do
      let ov ← eval o X.env
      standAt apos.atName
      let (f,first) ← holding [ov] (getMethod ov m pl)
      callWith pos f first (backTo pos (starEach (e::es) X.env)) (backToKw pos (keywordEach [] X.env))):=by rfl) :
    PE X (.Call (.Attribute o m apos) (e::es) [] pos) (Zmz X.prog X.w X.K X.mg X.base m k ta t):=by
  intro pins s σ H Q I h
  refine PySem.W.methodCall_KW (pl:=pl) (thn (he pins s σ H _ I h) λu s1 ⟨x,H1,I1,rx,a,C,dx,fs,ps,dvs,sp,ex,ea,c,hM,l,q⟩=>?_) ht
  subst ex
  obtain rfl:u=Value.ref a:=rx
  obtain ⟨f,fd,ds,F,hm,hb,hd⟩:=hM.ex
  refine ZfQ I1 ea c hm l ?_
  refine PySem.W.callWith_K (first:=[.ref a]) (h₀:=X.base) I.ok.mod.kin hm.kp (thn (ha pos pins s1 σ H1 _ I1 q) λus s2 ⟨vs,H2,I2,r,q2⟩=>⟨I2.kIn,?_⟩) hst hpl
  exact Zmx (us:=.ref a::us) (vs:=.ref a::vs) F hr hb hd Zm8 I2 (.cons rfl r) q2
structure HasI (P:Program) (w:World) (K:PySem.W.Frag) (mg:Str->Option Value) (base:Heap) (C:Addr) (k:Nat) (ps:List Str) (sp:Sp):Prop where
  ex:∃(f:Addr) (fd:FuncData),Mk K C f/\FnOk P w K mg base CX0 k f fd ps sp/\Binds K fd ps []
theorem ZlH{C:Addr}{ps:List Str}{sp:Sp}(h:HasI X.prog X.w X.K X.mg X.base C k ps sp)(hr:Room (k+1) X.A)(hg:Gl X x)(hm:X.mg x=some (.ref C))(ha:PA X (e::es) t)(hdb:(x==("__debug__" : Str))=false:=by decide)
    (he:starEach (e::es) X.env=(false,eval e X.env)::starEach es X.env:=by rfl) (hpl:(backTo pos (starEach es X.env)).any (·.1)=false:=by rfl):PE X (.Call (.Name x p) (e::es) [] pos) (Zoh C sp [] E0 t):=by
  obtain ⟨f,fd,M,F,b⟩:=h.ex
  exact ZmZ M F hr hg hm b .nil Zm8 ha hdb he hpl
structure HereM (K:PySem.W.Frag) (C:Addr) (m qual:Str) (st:Stmt):Prop where
  ex:∃(f:Addr) (fd:FuncData),Fun K m qual st f fd/\Meth K C m f
theorem HereM.hasM{P:Program}{w:World}{K:PySem.W.Frag}{mg:Str->Option Value}{base:Heap}{C:Addr}{m qual:Str}{st:Stmt}{k:Nat}{ps:List Str}{sp:Sp}(h:HereM K C m qual st)
    (b:∀f fd,Fun K m qual st f fd->Binds K fd ps []) (ok:∀f fd,Fun K m qual st f fd->FnOk P w K mg base CX0 k f fd ps sp):HasM P w K mg base C m k ps [] sp :=
  let ⟨f,fd,F,M⟩:=h.ex
  ⟨f,fd,[],ok f fd F,M,b f fd F,.nil⟩
theorem hereM_mk{K:PySem.W.Frag}{C:Addr}{m qual:Str}{st:Stmt}{f:Addr}{oc:Value}{od an:Option Addr}{osl:Array (Option Value)}{kV doc pm cdv ct:Value}(a:PySem.W.findIn K (.ref C) m=some (some (.ref f)))(i:PySem.W.isFn K (.ref f)=true)
    (l:K.lookup f=some ⟨oc,od,.func (PySem.W.fnOf m qual (ZbS st) (Zbi st) (Zag st) .none kV doc pm an cdv ct),osl⟩)
    (c:PySem.W.codeIn K cdv qual=true) (k:PySem.W.keepIn K (.ref f)=true):HereM K C m qual st:=⟨f,_,Ziw l c k,a,i,k⟩
structure HereI (K:PySem.W.Frag) (C:Addr) (qual:Str) (st:Stmt):Prop where
  ex:∃(f:Addr) (fd:FuncData),Fun K "__init__" qual st f fd/\Mk K C f
theorem HereI.hasI{P:Program}{w:World}{K:PySem.W.Frag}{mg:Str->Option Value}{base:Heap}{C:Addr}{qual:Str}{st:Stmt}{k:Nat}{ps:List Str}{sp:Sp}(h:HereI K C qual st)
    (b:∀f fd,Fun K "__init__" qual st f fd->Binds K fd ps []) (ok:∀f fd,Fun K "__init__" qual st f fd->FnOk P w K mg base CX0 k f fd ps sp):HasI P w K mg base C k ps sp :=
  let ⟨f,fd,F,M⟩:=h.ex
  ⟨f,fd,M,ok f fd F,b f fd F⟩
theorem hereI_mk{K:PySem.W.Frag}{C:Addr}{qual:Str}{st:Stmt}{f:Addr}{oc:Value}{od an:Option Addr}{osl:Array (Option Value)}{kV doc pm cdv ct:Value}(mk:PySem.W.makesIn K C=true)(a:PySem.W.findIn K (.ref C) "__init__" = some (some (.ref f))) (i:PySem.W.isFn K (.ref f)=true)
    (kc:PySem.W.keepIn K (.ref C)=true) (l:K.lookup f=some ⟨oc,od,.func (PySem.W.fnOf "__init__" qual (ZbS st) (Zbi st) (Zag st) .none kV doc pm an cdv ct),osl⟩)
    (c:PySem.W.codeIn K cdv qual=true) (k:PySem.W.keepIn K (.ref f)=true):HereI K C qual st:=⟨f,_,Ziw l c k,mk,a,i,kc⟩
structure Mk0 (K:PySem.W.Frag) (C:Addr):Prop where
  makes:PySem.W.makesIn K C=true
  init:PySem.W.findIn K (.ref C) "__init__" = some (some (.builtin "object.__init__"))
  kp:PySem.W.keepIn K (.ref C)=true
def Znb(C:Addr):TE:=λ_ H Q=>∀x dx,H x=none->H dx=none->dx≠x->Q (.ref x) (upd (upd H dx (.own x)) x (.ins C dx []))
theorem Zi8{C:Addr}{pins:List (Addr×Obj)}{σ:St}{H:Hp}{s:Shared}{Q:VK}(M:Mk0 X.K C)(I:Inv X pins σ H s)
    (h:∀x dx,H x=none->H dx=none->dx≠x->Q (.ref x) (upd (upd H dx (.own x)) x (.ins C dx []))):wpAny (model X.prog X.w) X.A (call (.ref C) []) (EP X pins σ Q) X.xe s:=by
  have hq:=h (s.heap.objs.size+1) s.heap.objs.size (I.hok.fresh (Wo _)) (I.hok.fresh (Q4 _)) (Qb (Ue _))
  have I2:=Inv.made (C:=C) I
  refine wpAny_call (ZjM I.kIn M.makes M.init (λself=>PySem.W.Looks.of_pure (PySem.W.oi_bind self)) ?_)
  have Y:=PySem.W.makes_of (M:=model X.prog X.w) I.kIn M.makes
  obtain ⟨hh,g,d,t,os⟩:=s
  have t1:PySem.W.Looks (model X.prog X.w) ((hh.push PySem.W.emptyDict).push (PySem.W.instObj C hh.objs.size)) (typeOf (.ref (hh.objs.size+1))) (.ref C) :=
    (PySem.W.Looks.ld (o:=PySem.W.instObj C hh.objs.size) (by have:=Heap.get?_push_size (hh.push PySem.W.emptyDict) (o:=PySem.W.instObj C hh.objs.size) rfl; rwa [Heap.size_push] at this)).andThen .now
  have t2:PySem.W.Looks (model X.prog X.w) ((hh.push PySem.W.emptyDict).push (PySem.W.instObj C hh.objs.size)) (isInstance (.ref (hh.objs.size+1)) (.type "object")) true:=t1.andThen (Y.top.keeps λb o e=>Heap.get?_push_of_some _ (Heap.get?_push_of_some _ e))
  refine codeAny_call_builtin PySem.W.oi_plain PySem.W.entry_oi (@PySem.W.check_slot (model X.prog X.w) _ _ _ "object.__init__" "object" "__init__" (.ref (hh.objs.size+1)) [] [] _ PySem.W.oi_kind PySem.W.oi_split t2 (PySem.W.oi_args (.ref (hh.objs.size+1))) ?_)
  rw[PySem.W.oi_run]
  refine wpAny_pure (And.intro rfl ?_)
  exact ⟨V.ref (hh.objs.size+1),_,I2,rfl,hq⟩
theorem ZjY{C:Addr}(M:Mk0 X.K C)(hg:Gl X x)(hm:X.mg x=some (.ref C))(hdb:(x==("__debug__" : Str))=false:=by decide):PE X (.Call (.Name x p) [] [] pos) (Znb C):=by
  intro pins s σ H Q I h
  refine wpAny_Call_Name_kw (Zcm I hg hm ?_ hdb)
  exact PySem.W.callWith_K0 I.kIn M.kp (Zi8 M I h)
end
end L2
namespace M1
theorem fmod_gcd(a b:Int):Int.gcd b (a.fmod b)=Int.gcd a b:=by
  have h:a.fmod b=a-b*a.fdiv b:=Int.fmod_def a b
  rw[h,Uw a b]
  have:a-b*a.fdiv b=a+b*(-(a.fdiv b)):=by rw[Wq]; omega
  rw[this]
  simp
theorem Zon(i:Int):(if i<0 then -i else i)=(i.natAbs:Int):=by split <;> omega
theorem gcd_zero'(a:Int):(Int.gcd a 0:Int)=(if a<0 then -a else a):=by
  rw[Zon,Int.gcd_zero_right]
theorem Ze1(a:Int){b:Int}(h:b<0):a.fmod b<=0/\b<a.fmod b:=by
  have e:=Int.neg_fmod_neg a b
  have h1:=Int.fmod_nonneg_of_pos (-a) (b:=-b) ⋯
  have h2:=Int.fmod_lt_of_pos (-a) (b:=-b) ⋯
  omega
theorem fmod_lt(a:Int){b:Int}(h:b≠0):(a.fmod b).natAbs<b.natAbs:=by
  rcases Int.lt_or_gt_of_ne h with h | h
  · have h1:=Ze1 a h
    omega
  · have h1:=Int.fmod_nonneg_of_pos a h
    have h2:=Int.fmod_lt_of_pos a h
    omega
theorem Zg6(a:Int){b:Int}(h:b≠0):(0<=b/\0<=a.fmod b)\/(b<=0/\a.fmod b<=0):=by
  rcases Int.lt_or_gt_of_ne h with h | h
  · exact .inr ⟨⋯,(Ze1 a h).1⟩
  · exact .inl ⟨⋯,Int.fmod_nonneg_of_pos a h⟩
structure Sh (x y a u1 v1 b u2 v2:Int):Prop where
  ea:a=u1*x+v1*y
  eb:b=u2*x+v2*y
  g:Int.gcd a b=Int.gcd x y
  st:(a=x/\u1=1/\v1=0/\b=y/\u2=0/\v2=1) ∨
    (a≠0/\((0<=a/\0<=b)\/(a<=0/\b<=0))/\a.natAbs<=y.natAbs/\b.natAbs<=y.natAbs/\u1.natAbs<=y.natAbs/\v1.natAbs<=x.natAbs+2*y.natAbs ∧
      u2.natAbs*a.natAbs+u1.natAbs*b.natAbs<=y.natAbs/\v2.natAbs*a.natAbs+v1.natAbs*b.natAbs<=x.natAbs+2*y.natAbs)
theorem Sh.start(x y:Int):Sh x y x 1 0 y 0 1:=⟨⋯,⋯,rfl,.inl ⟨rfl,rfl,rfl,rfl,rfl,rfl⟩⟩
theorem Zde{a b c:Nat}(h:a*b<=c)(hb:b≠0):a<=c:=Q0 (Nat.le_mul_of_pos_right a (Ug hb)) h
theorem Zpb{X Y:Nat}:X<=X+2*Y+1:=by omega
theorem ZjZ{X Y:Nat}:Y<=X+2*Y+1:=by omega
theorem Zoo{X Y:Nat}:1<=X+2*Y+1:=by omega
theorem Zpc{X Y:Nat}(h:1<=Y):1<=X+2*Y:=by omega
theorem Sh.bound{x y a u1 v1 b u2 v2:Int}(h:Sh x y a u1 v1 b u2 v2) :
    a.natAbs<=x.natAbs+2*y.natAbs+1/\u1.natAbs<=x.natAbs+2*y.natAbs+1/\v1.natAbs<=x.natAbs+2*y.natAbs+1 ∧
    b.natAbs<=x.natAbs+2*y.natAbs+1/\u2.natAbs<=x.natAbs+2*y.natAbs+1/\v2.natAbs<=x.natAbs+2*y.natAbs+1:=by
  rcases h.st with ⟨rfl,rfl,rfl,rfl,rfl,rfl⟩ | ⟨ha,_,h1,h2,h3,h4,h5,h6⟩
  · exact ⟨Zpb,Zoo,Qk _,ZjZ,Qk _,Zoo⟩
  · have ha':a.natAbs≠0:=Int.natAbs_ne_zero.mpr ha
    have k1:u2.natAbs<=y.natAbs:=Zde (b:=a.natAbs) (Q0 (Nat.le_add_right _ _) h5) ha'
    have k2:v2.natAbs<=x.natAbs+2*y.natAbs:=Zde (b:=a.natAbs) (Q0 (Nat.le_add_right _ _) h6) ha'
    exact ⟨Q0 h1 ZjZ,Q0 h3 ZjZ,Uh h4,Q0 h2 ZjZ,Q0 k1 ZjZ,Uh k2⟩
theorem rest_eq(a b:Int):a-a.fdiv b*b=a.fmod b:=by rw[Int.fmod_def,Ql]
theorem fdiv_small(a:Int){b:Int}(hb:b≠0):(a.fdiv b).natAbs<=a.natAbs+1:=by
  have e:=Int.mul_fdiv_add_fmod a b
  have l:=fmod_lt a hb
  have k:(b*a.fdiv b).natAbs=b.natAbs*(a.fdiv b).natAbs:=Qq ..
  have z:b*a.fdiv b=a-a.fmod b:=by omega
  have n1:b.natAbs*(a.fdiv b).natAbs<=a.natAbs+(b.natAbs-1):=by
    rw[<-k,z]
    have:=Int.natAbs_sub_le a (a.fmod b)
    omega
  generalize (a.fdiv b).natAbs=q at *
  generalize b.natAbs=c at *
  have hc:1<=c:=by omega
  rcases U8 (a.natAbs+1) q with h | h
  · have:c*(a.natAbs+2)<=c*q:=Ui c h
    have e2:c*(a.natAbs+2)=c*a.natAbs+c*2:=Nat.mul_add ..
    have e3:a.natAbs<=c*a.natAbs:=Ux _ hc
    omega
  · exact h
theorem Znc{a b:Int}(h:(0<=a/\0<=b)\/(a<=0/\b<=0)):0<=a.fdiv b:=by
  rcases h with ⟨h1,h2⟩ | ⟨h1,h2⟩
  · exact Int.fdiv_nonneg h1 h2
  · rw[<-Int.neg_fdiv_neg]; exact Int.fdiv_nonneg ⋯ ⋯
theorem Zj0{a b:Int}(hb:b≠0)(h:(0<=a/\0<=b)\/(a<=0/\b<=0)):(a.fdiv b).natAbs*b.natAbs+(a.fmod b).natAbs=a.natAbs:=by
  have e:=Int.mul_fdiv_add_fmod a b
  have q:=Znc h
  have s:=Zg6 a hb
  rw[<-Qq,Ql]
  have pq:(0<=b/\0<=b*a.fdiv b)\/(b<=0/\b*a.fdiv b<=0):=by
    rcases h with ⟨h1,h2⟩ | ⟨h1,h2⟩
    · exact .inl ⟨h2,Int.mul_nonneg h2 q⟩
    · refine .inr ⟨h2,?_⟩
      have:=Int.mul_nonneg (show 0 <= -b by omega) q
      rw[Int.neg_mul] at this
      omega
  rcases pq with ⟨b1,p1⟩ | ⟨b1,p1⟩
  · rcases s with ⟨_,s1⟩ | ⟨b2,_⟩
    · rw[<-Int.natAbs_add_of_nonneg p1 s1,e]
    · exact absurd (Int.le_antisymm b2 b1) hb
  · rcases s with ⟨b2,_⟩ | ⟨_,s1⟩
    · exact absurd (Int.le_antisymm b1 b2) hb
    · rw[<-Int.natAbs_add_of_nonpos p1 s1,e]
theorem ZfT(u q v:Int):(u-q*v).natAbs<=u.natAbs+q.natAbs*v.natAbs:=by
  have:=Int.natAbs_sub_le u (q*v)
  rw[Qq] at this
  exact this
theorem Ziy{u1 u2 q a b r u C:Nat}(hu:u<=u1+q*u2)(ha:q*b+r=a)(h:u2*a+u1*b<=C):u*b+u2*r<=C:=by
  have h1:u*b<=(u1+q*u2)*b:=U9 b hu
  have h2:(u1+q*u2)*b=u1*b+u2*(q*b):=by
    rw[Nat.add_mul,Wi q u2,Nat.mul_assoc]
  have h3:u2*a=u2*(q*b)+u2*r:=by rw[<-ha,Nat.mul_add]
  omega
theorem ZlI{x y a b q u1 v1 u2 v2:Int}(ea:a=u1*x+v1*y)(eb:b=u2*x+v2*y):a-q*b=(u1-q*u2)*x+(v1-q*v2)*y:=by
  rw[ea,eb,Int.sub_mul,Int.sub_mul,Int.mul_add,Qn,Qn]
  omega
theorem Zop{M A R B:Nat}(h:M<=A+R)(l:R<B):M+R<=A+2*B:=by omega
theorem Sh.turn{x y a u1 v1 b u2 v2:Int}(h:Sh x y a u1 v1 b u2 v2)(hb:b≠0) :
    Sh x y b u2 v2 (a-a.fdiv b*b) (u1-a.fdiv b*u2) (v1-a.fdiv b*v2):=by
  have er:=rest_eq a b
  refine ⟨h.eb,ZlI h.ea h.eb,?_,.inr ?_⟩
  · rw[er,fmod_gcd]; exact h.g
  · have lt:=fmod_lt a hb
    have sg:=Zg6 a hb
    rw[er]
    refine ⟨hb,sg,?_⟩
    rcases h.st with ⟨rfl,rfl,rfl,rfl,rfl,rfl⟩ | ⟨ha,hs,h1,h2,h3,h4,h5,h6⟩
    · have e0:(1:Int)-a.fdiv b*0=1:=by omega
      have e1:(0:Int)-a.fdiv b*1 = -(a.fdiv b):=by omega
      rw[e0,e1,Int.natAbs_neg]
      refine ⟨Q4 _,Wv lt,Qk _,Zpc (Ug (Int.natAbs_ne_zero.mpr hb)),?_,?_⟩
      · show 1*b.natAbs+0*(a.fmod b).natAbs<=b.natAbs
        rw[Nat.one_mul,Nat.zero_mul]
        exact Q4 _
      · show (a.fdiv b).natAbs*b.natAbs+1*(a.fmod b).natAbs<=a.natAbs+2*b.natAbs
        have e:=Int.mul_fdiv_add_fmod a b
        have k:(b*a.fdiv b).natAbs=b.natAbs*(a.fdiv b).natAbs:=Qq ..
        have z:b*a.fdiv b=a-a.fmod b:=by omega
        rw[Wi,<-k,z,Nat.one_mul]
        exact Zop (Int.natAbs_sub_le a (a.fmod b)) lt
    · have sp:=Zj0 hb hs
      have ha':a.natAbs≠0:=Int.natAbs_ne_zero.mpr ha
      have k1:u2.natAbs<=y.natAbs:=Zde (b:=a.natAbs) (Q0 (Nat.le_add_right _ _) h5) ha'
      have k2:v2.natAbs<=x.natAbs+2*y.natAbs:=Zde (b:=a.natAbs) (Q0 (Nat.le_add_right _ _) h6) ha'
      exact ⟨h2,Q0 (Wv lt) h2,k1,k2,Ziy (ZfT ..) sp h5,Ziy (ZfT ..) sp h6⟩
theorem Sh.done{x y a u1 v1 u2 v2:Int}(h:Sh x y a u1 v1 0 u2 v2):(a.natAbs:Int)=Int.gcd x y/\a=x*u1+y*v1:=by
  have g:=h.g
  rw[Int.gcd_zero_right] at g
  refine ⟨by rw[g],?_⟩
  rw[Ql x,Ql y]; exact h.ea
end M1
namespace M2
def Prm(n:Int):Prop:=2<=n/\∀d:Int,2<=d->d*d<=n->¬d ∣ n
theorem ZhD{a b:Int}(ha:0<=a)(h:a<=b):a*a<=b*b:=Int.mul_le_mul h h ha ⋯
theorem Znd:Prm 2:=⟨⋯,λd h1 h2=>by have:=ZhD (a:=2) ⋯ h1; omega⟩
theorem ZlJ{n:Int}(h:2<=n)(h2:n≠2)(e:n%2=0):¬Prm n:=λp=>p.2 2 ⋯ ⋯ (Int.dvd_of_emod_eq_zero e)
theorem prm_even{n:Int}(h:2<=n)(e:n%2=0):Prm n↔n=2:=by
  constructor
  · intro p
    refine Decidable.byContradiction λz=>ZlJ h z e p
  · rintro rfl
    exact Znd
def No(n t:Int):Prop:=∀d:Int,2<=d->d<t->¬d ∣ n
theorem No.odd{n:Int}(e:¬n%2=0):No n 3:=λd h1 h2 hd=>by
  have:d=2:=by omega
  subst this
  exact e (Ua hd)
theorem No.two{n:Int}:No n 2:=λd h1 h2=>by omega
theorem No.one{n t:Int}(h:No n t)(hn:¬t ∣ n):No n (t+1):=λd h1 h2=>by
  rcases (by omega:d<t\/d=t) with z | z
  · exact h d h1 z
  · rw[z]; exact hn
theorem No.next{n t:Int}(h:No n t)(e:¬n%2=0)(ho:t%2=1)(hn:¬t ∣ n):No n (t+2):=λd h1 h2 hd=>by
  rcases (by omega:d<t\/d=t\/d=t+1) with z | z | z
  · exact h d h1 z hd
  · rw[z] at hd; exact hn hd
  · have h2d:(2:Int) ∣ d:=Int.dvd_of_emod_eq_zero ⋯
    exact e (Ua (Int.dvd_trans h2d hd))
theorem No.done{n t:Int}(h:No n t)(h2:2<=n)(ht:0<=t)(hl:¬t*t<=n):Prm n:=⟨h2,λd h1 hd=>h d h1 (by
  refine Int.lt_of_not_ge λz=>hl ?_
  exact Int.le_trans (ZhD ht z) hd)⟩
theorem found{n t:Int}(ht:2<=t)(hl:t*t<=n)(hd:t ∣ n):¬Prm n:=λp=>p.2 t ht hl hd
theorem le_of_sq{n t:Int}(ht:2<=t)(hl:t*t<=n):t+t<=n:=by
  have:t*2<=t*t:=Int.mul_le_mul_of_nonneg_left ht ⋯
  omega
theorem fmod_dvd{n t:Int}(ht:0<t):n.fmod t=0↔t ∣ n:=by
  rw[Qy n ⋯]
  exact ⟨Int.dvd_of_emod_eq_zero,Ua⟩
theorem Zj1:∀d:Nat,d<1000->2<=d->999983%d≠0:=by decide +kernel
theorem prm_big:Prm 999983:=by
  refine ⟨⋯,λd h1 h2 hd=>?_⟩
  have hl:d<1000:=by
    refine Int.lt_of_not_ge λz=>?_
    have:=ZhD (a:=1000) ⋯ z
    omega
  have e:=Ua hd
  refine Zj1 d.toNat ⋯ ⋯ ?_
  have ed:d=(d.toNat:Int):=by omega
  rw[ed] at e
  have e2:((999983%d.toNat:Nat):Int)=0:=by rw[Wb]; exact e
  exact Int.natCast_eq_zero.mp e2
theorem Zne{p d:Int}(h:Prm p)(h1:1<d)(hd:d ∣ p):d=p:=by
  obtain ⟨k,hk⟩:=hd
  have hp:=h.1
  refine Decidable.byContradiction λz=>?_
  have kpos:0<k:=by
    refine Int.lt_of_not_ge λq=>?_
    have:=Int.mul_nonneg (show 0<=d by omega) (show 0 <= -k by omega)
    rw[Wq] at this
    omega
  have k1:k≠1:=λq=>z (by rw[hk,q,U2])
  rcases (by omega:d<=k\/k<=d) with q | q
  · exact h.2 d ⋯ (by rw[hk]; exact Int.mul_le_mul_of_nonneg_left q ⋯) ⟨k,hk⟩
  · exact h.2 k ⋯ (by rw[hk]; exact Int.mul_le_mul_of_nonneg_right q ⋯) ⟨d,by rw[hk,Ql]⟩
theorem prm_gcd{p b:Int}(h:Prm p)(hb:¬p ∣ b):Int.gcd b p=1:=by
  have h1:=W1 b p
  have h2:=Wr b p
  have hp:=h.1
  have hne:Int.gcd b p≠0:=λz=>by
    rw[z] at h1
    have:=Int.zero_dvd.mp h1
    omega
  refine Decidable.byContradiction λz=>hb ?_
  have e:=Zne h (show (1:Int)<(Int.gcd b p:Int) by omega) h1
  rw[e] at h2
  exact h2
end M2
namespace M3
theorem Zb5{a b c:Int}(h1:Int.gcd a c=1)(h2:Int.gcd b c=1):Int.gcd (a*b) c=1:=by
  rw[Int.gcd_eq_natAbs_gcd_natAbs] at *
  rw[Qq]
  exact Nat.Coprime.mul_left h1 h2
theorem Zdf{a b:Int}(h:Int.gcd a b=1):Int.gcd b a=1:=by rw[Uw]; exact h
theorem ZbK{a b c:Int}(h1:Int.gcd c a=1)(h2:Int.gcd c b=1):Int.gcd c (a*b)=1:=Zdf (Zb5 (Zdf h1) (Zdf h2))
theorem ZlK{a b c:Int}(h:Int.gcd (a*b) c=1):Int.gcd a c=1:=by
  rw[Int.gcd_eq_natAbs_gcd_natAbs] at *
  rw[Qq] at h
  exact Nat.Coprime.coprime_dvd_left ⟨b.natAbs,rfl⟩ h
theorem ZcP{a b c:Int}(h:Int.gcd (a*b) c=1):Int.gcd b c=1:=ZlK (b:=a) (by rw[Ql]; exact h)
theorem Zdg{a b c:Int}(h:Int.gcd c (a*b)=1):Int.gcd c b=1:=Zdf (ZcP (Zdf h))
theorem Zg7{a b:Int}(hb:Int.gcd a b≠0):∃x y:Int,a=(Int.gcd a b:Int)*x/\b=(Int.gcd a b:Int)*y/\Int.gcd x y=1:=by
  obtain ⟨x,hx⟩:=Wr a b
  obtain ⟨y,hy⟩:=W1 a b
  refine ⟨x,y,hx,hy,?_⟩
  have e:Int.gcd ((Int.gcd a b:Int)*x) ((Int.gcd a b:Int)*y)=Int.gcd a b*Int.gcd x y:=by
    rw[Int.gcd_mul_left]
    simp
  rw[<-hx,<-hy] at e
  have e2:Int.gcd a b*Int.gcd x y=Int.gcd a b*1:=by omega
  exact Nat.eq_of_mul_eq_mul_left (Ug hb) e2
theorem gcd_ne{a b:Int}(h:b≠0):Int.gcd a b≠0:=λz=>h (Int.gcd_eq_zero_iff.mp z).2
theorem Zbk{g x:Int}(hg:g≠0):(g*x).fdiv g=x:=Int.mul_fdiv_cancel_left x hg
theorem Ze2{g x:Int}(hg:0<g)(h:0<g*x):0<x:=by
  refine Int.lt_of_not_ge λz=>?_
  have:=Int.mul_nonneg (Int.le_of_lt hg) (show 0 <= -x by omega)
  rw[Wq] at this
  omega
theorem low{t b:Int}(hb:0<b):Int.gcd (t.fdiv (Int.gcd t b)) (b.fdiv (Int.gcd t b))=1/\0<b.fdiv (Int.gcd t b)/\t.fdiv (Int.gcd t b)*b=t*b.fdiv (Int.gcd t b) ∧
    (t.fdiv (Int.gcd t b)).natAbs<=t.natAbs/\(b.fdiv (Int.gcd t b)).natAbs<=b.natAbs:=by
  have hg:=gcd_ne (a:=t) (b:=b) ⋯
  obtain ⟨x,y,hx,hy,c⟩:=Zg7 hg
  generalize Int.gcd t b=g at *
  have hg':(g:Int)≠0:=by omega
  subst hx hy
  rw[Zbk hg',Zbk hg']
  have yp:=Ze2 (show (0:Int)<g by omega) hb
  refine ⟨c,yp,by ac_rfl,?_,?_⟩
  · rw[Qq]; exact Ux _ ⋯
  · rw[Qq]; exact Ux _ ⋯
theorem Zi9(g x:Int)(hg:g≠0):x.natAbs<=(g*x).natAbs:=by
  rw[Qq]; exact Ux _ ⋯
theorem plus_ok{a1 b1 a2 b2:Int}(h1:0<b1)(h2:0<b2)(c1:Int.gcd a1 b1=1)(c2:Int.gcd a2 b2=1){top:Int}
    (ht:top=a1*b2.fdiv (Int.gcd b1 b2)+a2*b1.fdiv (Int.gcd b1 b2)) :
    Int.gcd top (Int.gcd b1 b2)≠0/\0<b1.fdiv (Int.gcd b1 b2)*b2.fdiv (Int.gcd top (Int.gcd b1 b2)) ∧
    Int.gcd (top.fdiv (Int.gcd top (Int.gcd b1 b2))) (b1.fdiv (Int.gcd b1 b2)*b2.fdiv (Int.gcd top (Int.gcd b1 b2)))=1 ∧
    top.fdiv (Int.gcd top (Int.gcd b1 b2))*(b1*b2)=(a1*b2+a2*b1)*(b1.fdiv (Int.gcd b1 b2)*b2.fdiv (Int.gcd top (Int.gcd b1 b2))):=by
  have hg:=gcd_ne (a:=b1) (b:=b2) ⋯
  obtain ⟨p,q,hp,hq,cpq⟩:=Zg7 hg
  generalize hG:Int.gcd b1 b2=g at *
  have hg':(g:Int)≠0:=by omega
  have e1:b1.fdiv g=p:=by rw[hp]; exact Zbk hg'
  have e2:b2.fdiv g=q:=by rw[hq]; exact Zbk hg'
  rw[e1,e2] at ht
  rw[e1]
  have hl:=gcd_ne (a:=top) (b:=(g:Int)) hg'
  obtain ⟨t,r,ht2,hr,ctr⟩:=Zg7 hl
  generalize hL:Int.gcd top g=l at *
  have hl':(l:Int)≠0:=by omega
  have e3:top.fdiv l=t:=by rw[ht2]; exact Zbk hl'
  have e4:b2=l*(r*q):=by rw[hq,hr]; ac_rfl
  have e5:b2.fdiv l=r*q:=by rw[e4]; exact Zbk hl'
  rw[e3,e5]
  have pp:0<p:=Ze2 (show (0:Int)<g by omega) (by rw[<-hp]; exact h1)
  have rq:0<r*q:=Ze2 (show (0:Int)<l by omega) (by rw[<-e4]; exact h2)
  have tp:Int.gcd top p=1:=by
    rw[ht,Int.gcd_add_mul_right_left]
    exact Zb5 (Zdg (a:=g) (by rw[<-hp]; exact c1)) (Zdf cpq)
  have tq:Int.gcd top q=1:=by
    rw[ht,Int.add_comm,Int.gcd_add_mul_right_left]
    exact Zb5 (Zdg (a:=g) (by rw[<-hq]; exact c2)) cpq
  rw[ht2] at tp tq
  refine ⟨hl,Qu pp rq,ZbK (ZcP tp) (ZbK ctr (ZcP tq)),?_⟩
  have k1:a1*b2+a2*b1=g*(l*t):=by
    rw[<-ht2,ht,Int.mul_add,hp,hq]
    congr 1 <;> ac_rfl
  rw[k1,hp,hq]
  have k2:(g:Int)*(l*t)*(p*(r*q))=g*t*p*q*(l*r):=by ac_rfl
  rw[k2,<-hr]
  ac_rfl
theorem times_ok{a1 b1 a2 b2:Int}(h1:0<b1)(h2:0<b2)(c1:Int.gcd a1 b1=1)(c2:Int.gcd a2 b2=1) :
    0<b1.fdiv (Int.gcd a2 b1)*b2.fdiv (Int.gcd a1 b2) ∧
    Int.gcd (a1.fdiv (Int.gcd a1 b2)*a2.fdiv (Int.gcd a2 b1)) (b1.fdiv (Int.gcd a2 b1)*b2.fdiv (Int.gcd a1 b2))=1 ∧
    a1.fdiv (Int.gcd a1 b2)*a2.fdiv (Int.gcd a2 b1)*(b1*b2)=a1*a2*(b1.fdiv (Int.gcd a2 b1)*b2.fdiv (Int.gcd a1 b2)):=by
  have hf:=gcd_ne (a:=a1) (b:=b2) ⋯
  have hr:=gcd_ne (a:=a2) (b:=b1) ⋯
  obtain ⟨x,y,hx,hy,cxy⟩:=Zg7 hf
  obtain ⟨z,w,hz,hw,czw⟩:=Zg7 hr
  generalize Int.gcd a1 b2=f at *
  generalize Int.gcd a2 b1=r at *
  have hf':(f:Int)≠0:=by omega
  have hr':(r:Int)≠0:=by omega
  have e1:a1.fdiv f=x:=by rw[hx]; exact Zbk hf'
  have e2:b2.fdiv f=y:=by rw[hy]; exact Zbk hf'
  have e3:a2.fdiv r=z:=by rw[hz]; exact Zbk hr'
  have e4:b1.fdiv r=w:=by rw[hw]; exact Zbk hr'
  rw[e1,e2,e3,e4]
  have yp:=Ze2 (show (0:Int)<f by omega) (by rw[<-hy]; exact h2)
  have wp:=Ze2 (show (0:Int)<r by omega) (by rw[<-hw]; exact h1)
  rw[hx,hw] at c1
  rw[hz,hy] at c2
  refine ⟨Qu wp yp,Zb5 (ZbK (Zdg (ZcP c1)) cxy) (ZbK czw (Zdg (ZcP c2))),?_⟩
  rw[hx,hy,hz,hw]
  ac_rfl
theorem fdiv_le{a:Int}{g:Int}(h:g ∣ a)(hg:g≠0):(a.fdiv g).natAbs<=a.natAbs:=by
  obtain ⟨x,rfl⟩:=h
  rw[Zbk hg]
  exact Zi9 g x hg
end M3
namespace L2
open PySem PySem.Spec PyProof.Rows
structure XCls (K:PySem.W.Frag) (C:Addr):Prop where
  ga:PySem.W.findIn K (.ref C) "__getattribute__" = some (some (.builtin "BaseException.__getattribute__"))
  ha:PySem.W.findIn K (.ref C) "__getattr__" = some none
  cl:PySem.W.findIn K (.ref C) "__class__" = some (some (.builtin "object.__class__"))
  hn:PySem.W.specialIn K (.builtin "object.__class__") "__get__" = some (some (.builtin "getset_descriptor.__get__"))
  tk:PySem.W.takesIn K (.builtin "object.__class__")=some true
  ob:PySem.W.mroIn K C (.type "object")=some true
  be:PySem.W.mroIn K C (.type "BaseException")=some true
  hd:PySem.W.hasDictIn K C=true
section
variable{prog:Program}{w:World}{A:Around}{E:Value->Shared->Prop}{s:Shared}{K:PySem.W.Frag}{x C:Addr}{ox:Obj}{od:Option Obj}
theorem ZhE{K:PySem.W.Frag}{C:Addr}{od:Option Obj}{name:Str}{a g:Value}(hc:(PySem.W.clsIn K C).isSome=true)(ha:PySem.W.findIn K (.ref C) name=some (some a))(hg:PySem.W.specialIn K a "__get__" = some (some g)) (ht:PySem.W.takesIn K a=some true) :
    PySem.W.findObj K C od name=some (.bind g a):=by
  obtain ⟨cd,hc⟩:=Option.isSome_iff_exists.mp hc
  unfold PySem.W.findObj
  rw[hc,Option.bind_some,ha,Option.bind_some]
  simp[hg,ht]
theorem Zj2(c:XCls K C){tk:Tok}{R:Result->Shared->Prop}(X:K.In s.heap)(I:PySem.W.InstAt s.heap x ox C od)(h:R (.ok (.ret (.ref C))) s) :
    codeAny (model prog w) A (.call (.builtin "BaseException.__getattribute__") ⟨[.ref x,.str "__class__" tk],[]⟩) R s:=by
  have hf:PySem.W.findObj K C od "__class__" = some (.bind (.builtin "getset_descriptor.__get__") (.builtin "object.__class__")):=ZhE (by obtain ⟨cd,hc,_⟩:=PySem.W.any_some c.hd; rw[hc]; rfl) c.cl c.hn c.tk
  obtain ⟨hh,gg,d,t,os⟩:=s
  have L0:=I.type (M:=model prog w)
  have LF:=PySem.W.looks_find (M:=model prog w) X I hf
  have LB:PySem.W.Looks (model prog w) hh (isInstance (.ref x) (.type "BaseException")) true:=L0.andThen (PySem.W.looks_mroIn X c.be)
  have LG:=PySem.W.looks_mroIn (M:=model prog w) X c.be
  refine codeAny_call_builtin F.excAttr_ValueError.ga.plain F.entry_bexc_ga ?_
  have hk:builtinKind "BaseException.__getattribute__" = some .slot:=by decide +kernel
  have hsplit:splitId "BaseException.__getattribute__" = some ("BaseException", "__getattribute__"):=by decide +kernel
  have ha:=F.args_bexc_ga (.ref x) (.str "__class__" tk)
  simp only[checkBuiltinCall,hk,hsplit]
  refine wpAny_bind (LB.at ?_)
  simp only[Bool.not_true,Bool.false_eq_true,if_false]
  refine wpAny_of_eq ha ?_
  refine wpAny_bind (wpAny_pure (wpAny_bind (wpAny_pure (wpAny_bind (L0.at (wpAny_bind (LF.at ?_)))))))
  show wpAny _ _ (holding [Value.builtin "object.__class__"] (call (.builtin "getset_descriptor.__get__") [.builtin "object.__class__", .ref x,.ref C]) >>= ret) _ _ _
  exact wpAny_bind (wpAny_holding (wpAny_call (PySem.W.class_get (s:=⟨hh,gg,d,t,os⟩) X I c.ob (wpAny_pure h))))
theorem Zj3(c:XCls K C){Q:Option Value->Shared->Prop}(X:K.In s.heap)(I:PySem.W.InstAt s.heap x ox C od)(h:Q (some (.ref C)) { s with toks:=s.toks+1 }):wpAny (model prog w) A (getAttr? (.ref x) "__class__") Q E s:=by
  have L0:=I.type (M:=model prog w)
  have L1:=PySem.W.looks_findIn (M:=model prog w) X c.ga
  have L3:=PySem.W.looks_findIn (M:=model prog w) X c.ha
  obtain ⟨hh,g,d,t,os⟩:=s
  unfold getAttr? getAttrBy? getAttrBy
  refine wpAny_bind (wpAny_mkText (wpAny_bind (wpAny_attempt (wpAny_holding (wpAny_bind (L0.at (wpAny_bind (L1.at ?_))))))))
  show wpAny _ _ (getAttrByItsOwn _ _ _ _ _ _) _ _ _
  unfold getAttrByItsOwn
  refine wpAny_bind (L3.at ?_)
  refine wpAny_bind (wpAny_attempt (wpAny_holding ?_))
  show wpAny _ _ (boundAndCalled _ _ _) _ _ _
  unfold boundAndCalled
  refine wpAny_bind (wpAny_of_eq (F.excAttr_ValueError.ga.bind (.ref x)) ?_)
  refine wpAny_call (Zj2 (s:=⟨hh,g,d,t+1,os⟩) c X I ?_)
  exact PySem.W.handed_on rfl (wpAny_pure h)
theorem Ziz(c:XCls K C):PySem.W.KitX K (.ref x) (.ref C) (λh=>∃ox od,PySem.W.InstAt h x ox C od) where
  ty:=λ_ _ _ ⟨_,_,I⟩=>I.type
  it:=λ_ _ X _=>by
    obtain ⟨cdD,hcD,_⟩:=PySem.W.any_some c.hd
    unfold PySem.W.clsIn at hcD
    split at hcD
    · rename_i c' d' cd' sl' ho
      intro A' Q' E' s' k q
      unfold isType loadHead
      exact wpAny_bind (wpAny_loadPart (k _ _ (X _ _ ho)) (wpAny_pure q))
    · cases hcD
  ne:=λh tp dd its n sl X htp=>by
    obtain ⟨cdD,hcD,_⟩:=PySem.W.any_some c.hd
    refine Bool.eq_false_iff.mpr λq=>?_
    have e:C=tp:=Value.ref.inj (beq_iff_eq.mp q)
    subst e
    unfold PySem.W.clsIn at hcD
    split at hcD
    · rename_i c' d' cd' sl' ho
      exact nomatch (X _ _ ho).symm.trans htp
    · cases hcD
  ca:=λX ⟨_,_,I⟩ k=>Zj3 c X I k
end
end L2
namespace L2
open PySem PySem.Spec PyProof.Rows
def Tr(h B:Heap)(e:Addr)(cls a0:Value)(dd:Option Addr)(fl:Value):Prop :=
  ∃oe vs T oT ts,h.get? e=some oe/\oe.cls=cls/\oe.dict=dd/\oe.data = .fields vs/\vs[0]?=some a0/\vs[1]?=some (.ref T)/\B.get? T=none/\T≠e/\h.get? T=some oT/\oT.data = .fields ts/\ts[3]?=some fl
theorem ZfH(o:Obj)(f):(o.mapFields f).dict=o.dict:=by
  obtain ⟨c,d,dt,sl⟩:=o
  cases dt <;> rfl
theorem Zcq{h:Heap}{a:Addr}{o:Obj}{vs:Array Value}(f:Array Value->Array Value)(ho:h.get? a=some o)(hd:o.data = .fields vs):h.UpToSlots (h.update a (Obj.mapFields f)):=λb u e n =>
  ⟨u.slots,by
    rw[Heap.get?_update_other _ _ λz=>by subst z; rw[ho] at e; cases e; exact n vs hd]
    exact e⟩
theorem ZcQ{h h' B:Heap}{l:List Env}(u:h.UpToSlots h')(f:h.FunFrames B l):h'.FunFrames B l:=f.of_keeps λb o e n=>let ⟨sl,q⟩:=u b o e n; ⟨_,q,rfl⟩
section
variable{M:Model}{A:Around}{E:Value->Shared->Prop}{s:Shared}{B:Heap}{env:Env}{outer:List Env}{L e:Addr}{oe:Obj}{vs:Array Value}{cls a0:Value}{dd:Option Addr}{Q:Unit->Shared->Prop}
theorem Zg8{hd0:Value}{hn:Bool}(hfr:A.frames=some (env::outer))(fl:s.heap.FunFrames B (env::outer))(hf:env.frame=some L)(he:s.heap.get? e=some oe)(st:B.StaysIn s.heap)(nb:B.get? e=none)(hd:oe.data = .fields vs)
    (h0:vs[0]?=some a0) (hz:1<vs.size) (k:∀h',B.StaysIn h'->h'.FunFrames B (env::outer)->Tr h' B e oe.cls a0 oe.dict (rawInt L)->s.heap.UpToSlots h'->Q () { s with heap:=h' }) :
    wpAny M A (do let a ← frameOf env; let pl ← entryPlaceOf L hn; let b ← EntryCells.newEntry hd0 a .none (rawInt L) .none pl; setField (.ref e) 1 b) Q E s:=by
  have notf:e∉(env::outer).filterMap (·.frame):=λhm=>by
    obtain ⟨_,o,ho,n⟩:=fl.mem hm
    rw[he] at ho; cases ho; exact n vs hd
  refine wpAny_bind (wpAny_frameOf_fun hfr fl hf λh1 so=>wpAny_bind (wpAny_entryPlaceOf λpl hpl=>?_))
  have u1:s.heap.UpToSlots h1:=λb o q _=>so.2.2 b o q
  have st1:B.StaysIn h1:=λb o q=>(so.2.1 b λhm=>by rw[(fl.mem hm).1] at q; cases q).trans (st b o q)
  have he1:h1.get? e=some oe:=(so.2.1 e notf).trans he
  unfold EntryCells.newEntry newFields
  refine wpAny_bind (wpAny_newObj_type ?_ (hpl.sizeOk5 _ _ _ _ _))
  generalize ht:([hd0,Value.ref L,.none,rawInt L,.none]++(if pl.isEmpty then List.replicate 6 Value.none else pl)).toArray=ts
  have ht3:ts[3]?=some (rawInt L):=by rw[<-ht]; simp
  have he2:=Heap.get?_push_of_some (h:=h1) { cls:=.type "traceback", dict:=none,data:=.fields ts } he1
  refine wpAny_setField he2 hd hz (k _ ?_ ?_ ?_ ?_)
  · intro b o q
    rw[Heap.get?_update_other _ _ λz=>by subst z; rw[nb] at q; cases q]
    exact Heap.get?_push_of_some _ (st1 b o q)
  · exact ZcQ ((u1.trans (.of_keeps λb o q=>Heap.get?_push_of_some _ q)).trans (Zcq _ he2 hd)) fl
  · have nT:h1.objs.size≠e:=Uc (Heap.lt_size he1)
    refine ⟨_,_,h1.objs.size,{ cls:=.type "traceback", dict:=none,data:=.fields ts },ts,Heap.get?_update_self _ he2 (Obj.isFreed_of_fields (Obj.data_mapFields hd _)),Obj.cls_mapFields _ _,ZfH _ _,Obj.data_mapFields hd _,?_,?_,st1.fresh,nT,?_,rfl,ht3⟩
    · rw[Array.getElem?_setIfInBounds_ne ∅]; exact h0
    · simp[hz]
    · rw[Heap.get?_update_other _ _ (Ne.symm nT)]
      exact Heap.get?_push_size h1 rfl
  · exact (u1.trans (.of_keeps λb o q=>Heap.get?_push_of_some _ q)).trans (Zcq _ he2 hd)
theorem ZfU(hfr:A.frames=some (env::outer))(fl:s.heap.FunFrames B (env::outer))(hf:env.frame=some L)(he:s.heap.get? e=some oe)(st:B.StaysIn s.heap)(nb:B.get? e=none)(hd:oe.data = .fields vs)
    (h0:vs[0]?=some a0) (h1:vs[1]?=some .none) (k:∀h',B.StaysIn h'->h'.FunFrames B (env::outer)->Tr h' B e oe.cls a0 oe.dict (rawInt L)->s.heap.UpToSlots h'->Q () { s with heap:=h' }) :
    wpAny M A (noteFrame (.ref e) env) Q E s:=by
  unfold noteFrame
  simp only[hf]
  refine wpAny_bind (wpAny_field he hd h1 ?_)
  rw[if_neg ∅]
  exact Zg8 hfr fl hf he st nb hd h0 (Array.getElem?_eq_some_iff.mp h1).1 k
theorem Zj4(hfr:A.frames=some (env::outer))(fl:s.heap.FunFrames B (env::outer))(hf:env.frame=some L)(tr:Tr s.heap B e cls a0 dd .none)(st:B.StaysIn s.heap)(nb:B.get? e=none)
    (k:∀h',B.StaysIn h'->h'.FunFrames B (env::outer)->Tr h' B e cls a0 dd (rawInt L)->s.heap.UpToSlots h'->Q () { s with heap:=h' }):wpAny M A (noteFrame (.ref e) env) Q E s:=by
  obtain ⟨oe,vs,T,oT,ts,he,rfl,rfl,hd,h0,h1,nT,hTe,hT,hdT,h3⟩:=tr
  unfold noteFrame
  simp only[hf]
  refine wpAny_bind (wpAny_field he hd h1 ?_)
  rw[if_pos (show (Value.ref T != Value.none)=true from by simp)]
  refine wpAny_bind (wpAny_field hT hdT h3 ?_)
  rw[if_neg (show ¬((Value.none==rawInt L)=true) from by simp[rawInt])]
  have u:=Zcq (·.setIfInBounds 3 Value.none) hT hdT
  refine wpAny_bind (wpAny_setField hT hdT (Array.getElem?_eq_some_iff.mp h3).1 (Zg8 (s:={ s with heap:=s.heap.update T (Obj.mapFields (·.setIfInBounds 3 Value.none)) }) hfr (ZcQ u fl) hf (by rw[Heap.get?_update_other _ _ hTe]; exact he) (λb o q=>?_) nb hd h0 (Array.getElem?_eq_some_iff.mp h1).1 λh' a b c d=>k h' a b c (u.trans d)))
  rw[Heap.get?_update_other _ _ λz=>by subst z; rw[nT] at q; cases q]
  exact st b o q
theorem ZlL{fl0:Value}{l:List Env}(fl:s.heap.FunFrames B l)(tr:Tr s.heap B e cls a0 dd fl0)(st:B.StaysIn s.heap)
    (k:∀h',B.StaysIn h'->h'.FunFrames B l->Tr h' B e cls a0 dd .none->s.heap.UpToSlots h'->Q () { s with heap:=h' }):wpAny M A (setFlight (.ref e) none) Q E s:=by
  obtain ⟨oe,vs,T,oT,ts,he,rfl,rfl,hd,h0,h1,nT,hTe,hT,hdT,h3⟩:=tr
  have h3':3<ts.size:=(Array.getElem?_eq_some_iff.mp h3).1
  have u:=Zcq (·.setIfInBounds 3 ((none:Option Addr).elim Value.none λf=>rawInt f)) hT hdT
  unfold setFlight
  refine wpAny_bind (wpAny_field he hd h1 ?_)
  rw[if_pos (show (Value.ref T != Value.none)=true from by simp)]
  refine wpAny_setField hT hdT h3' (k _ (λb o q=>?_) (ZcQ u fl) ⟨oe,vs,T,_,_,?_,rfl,rfl,hd,h0,h1,nT,hTe,Heap.get?_update_self _ hT (Obj.isFreed_of_fields (Obj.data_mapFields hdT _)),Obj.data_mapFields hdT _,by simp[h3']⟩ u)
  · rw[Heap.get?_update_other _ _ λz=>by subst z; rw[nT] at q; cases q]
    exact st b o q
  · rw[Heap.get?_update_other _ _ hTe]; exact he
end
end L2
namespace L2
open PySem PySem.Spec PyProof.Rows
structure Air (P:Program) (w:World) (B:Heap) (l:List Env) (H:Hp) (h:Heap) (e t:Addr) (cls:Value) (dd:Option Addr) (fl:Value):Prop where
  hok:HOk P w H h
  st:B.StaysIn h
  nb:B.get? e=none
  fr:h.FunFrames B l
  tr:Tr h B e cls (.ref t) dd fl
  tk:∀b u,H b=some u->∃o,B.get? b=some o
theorem Air.free{P:Program}{w:World}{B:Heap}{l:List Env}{H:Hp}{h:Heap}{e t:Addr}{cls:Value}{dd:Option Addr}{fl:Value}(a:Air P w B l H h e t cls dd fl):H e=none:=by
  cases q:H e with
  | none=>rfl
  | some u=>obtain ⟨o,z⟩:=a.tk e u q; rw[a.nb] at z; cases z
theorem ZiA{P:Program}{w:World}{B:Heap}{H:Hp}{h h':Heap}(x:HOk P w H h)(st:B.StaysIn h)(st':B.StaysIn h')(tk:∀b u,H b=some u->∃o,B.get? b=some o):HOk P w H h':=λa o e =>
  (x a o e).stay (λb u hb q=>by
    have:∃v,H b=some v:=by
      rcases hb with rfl | hb
      · exact ⟨o,e⟩
      · exact ⟨_,hb⟩
    obtain ⟨v,hv⟩:=this
    obtain ⟨ob,z⟩:=tk b v hv
    have e2:=(st b ob z).symm.trans q
    cases e2
    exact st' b _ z) (λ_ q=>q) λ_ _ q=>q
def CXx(P:Program)(w:World):CXT:=λouter H s E ev s' =>
  ∃(e t:Addr) (cls:Value) (dd:Option Addr) (H':Hp) (B:Heap),ev = .ref e/\s'.os=s.os/\AllBare s'.gens/\Un (frs outer) [] H H' s.heap s'.heap/\Air P w B outer H' s'.heap e t cls dd .none ∧
    (∀b o,s.heap.get? b=some o->H b=none->b∉frs outer->B.get? b=some o)/\(∀b o,s.heap.get? b=some o->b∉frs outer->∃o',B.get? b=some o')/\E cls dd H'
section
variable{M:Model}{A:Around}{E:Value->Shared->Prop}{s:Shared}{P:Program}{w:World}{B:Heap}{env:Env}{outer:List Env}{H:Hp}{L e t:Addr}{cls:Value}{dd:Option Addr}{fl:Value}{Q:Unit->Shared->Prop}{B0:Heap}
theorem Air.note(a:Air P w B (env::outer) H s.heap e t cls dd .none)(hfr:A.frames=some (env::outer))(hf:env.frame=some L)(k:∀h',Air P w B (env::outer) H h' e t cls dd (rawInt L)->s.heap.UpToSlots h'->Q () { s with heap:=h' }) :
    wpAny M A (noteFrame (.ref e) env) Q E s :=
  Zj4 hfr a.fr hf a.tr a.st a.nb λh' st fr tr up=>k h' ⟨ZiA a.hok a.st st a.tk,st,a.nb,fr,tr,a.tk⟩ up
theorem Air.off{l:List Env}(a:Air P w B l H s.heap e t cls dd fl)(k:∀h',Air P w B l H h' e t cls dd .none->s.heap.UpToSlots h'->Q () { s with heap:=h' }):wpAny M A (setFlight (.ref e) none) Q E s :=
  ZlL a.fr a.tr a.st λh' st fr tr up=>k h' ⟨ZiA a.hok a.st st a.tk,st,a.nb,fr,tr,a.tk⟩ up
theorem Air.leave(a:Air P w B (env::outer) H s.heap e t cls dd .none)(hfr:A.frames=some (env::outer))(hf:env.frame=some L)(k:∀h',Air P w B outer H h' e t cls dd .none->s.heap.UpToSlots h'->Q () { s with heap:=h' }) :
    wpAny M A (leaving env (.ref e)) Q E s:=by
  unfold leaving
  refine wpAny_bind (a.note hfr hf λh1 a1 u1=>?_)
  refine Air.off (s:={ s with heap:=h1 }) a1 λh2 a2 u2=>?_
  obtain ⟨_,_,fr⟩:=a2.fr
  exact k h2 ⟨a2.hok,a2.st,a2.nb,fr,a2.tr,a2.tk⟩ (u1.trans u2)
theorem Znf{s0:Heap}{vs:List Value}(hok:HOk P w H s0)(fl0:s0.FunFrames B0 (env::outer))(hm:Heap.MadeExcOf s0 s.heap e cls vs)(hn:∀b∈frs (env::outer),H b=none)(hfr:A.frames=some (env::outer))(hf:env.frame=some L)
    (k:∀h' t,Air P w (PySem.W.hideAll s0 (frs (env::outer))) (env::outer) H h' e t cls none (rawInt L)->s0.UpToSlots h'->Q () { s with heap:=h' }):wpAny M A (noteFrame (.ref e) env) Q E s:=by
  obtain ⟨t,he,_,_⟩:=hm.there
  have st0:(PySem.W.hideAll s0 (frs (env::outer))).StaysIn s0:=λb o q=>PySem.W.of_hideAll _ q
  have st:(PySem.W.hideAll s0 (frs (env::outer))).StaysIn s.heap:=λb o q=>hm.keeps b o (st0 b o q)
  have tk:∀b u,H b=some u->∃o,(PySem.W.hideAll s0 (frs (env::outer))).get? b=some o:=λb u q=>by
    have lt:=hok.lt q
    obtain ⟨o,ho⟩:∃o,s0.get? b=some o:=by
      have x:=hok b u q
      cases u with
      | lst xs=>obtain ⟨_,_,_,_,z⟩:=x; exact ⟨_,z⟩
      | tup xs=>obtain ⟨_,_,_,o,z,_⟩:=x; exact ⟨_,z⟩
      | dK kvs=>obtain ⟨_,_,_,_,o,_,_,z,_⟩:=x; exact ⟨_,z⟩
      | dT kvs=>obtain ⟨_,_,_,_,o,_,_,z,_⟩:=x; exact ⟨_,z⟩
      | set S n=>obtain ⟨o,_,_,_,z,_⟩:=x; exact ⟨_,z⟩
      | ins C dx fs=>obtain ⟨_,_,_,z,_⟩:=x; exact ⟨_,z⟩
      | own y=>obtain ⟨_,z⟩:=x; exact ⟨_,z⟩
      | xd fs=>obtain ⟨_,⟨_,_,_,z,_⟩,_⟩:=x; exact ⟨_,z⟩
      | rng lo hi=>obtain ⟨_,_,_,z⟩:=x; exact ⟨_,z⟩
      | frz ob v=>obtain ⟨z,_⟩:=x; exact ⟨_,z⟩
      | tbl ps=>exact ⟨_,(show s0.get? b=some _ from x)⟩
      | met f y=>exact ⟨_,(show s0.get? b=some _ from x)⟩
      | ext φ=>obtain ⟨_,⟨_,z⟩,_⟩:=x; exact ⟨_,z⟩
    exact ⟨o,PySem.W.hideAll_get _ ho λhm=>by rw[hn b hm] at q; cases q⟩
  have nb:(PySem.W.hideAll s0 (frs (env::outer))).get? e=none:=by
    cases q:(PySem.W.hideAll s0 (frs (env::outer))).get? e with
    | none=>rfl
    | some o=>have:=st0 e o q; rw[hm.new] at this; cases this
  have fl1:s0.FunFrames (PySem.W.hideAll s0 (frs (env::outer))) (env::outer):=PySem.W.funFrames_hide fl0 λx hx a ha=>Ud.mpr ⟨x,hx,ha⟩
  refine ZfU hfr (ZcQ (.of_keeps hm.keeps) fl1) hf he st nb rfl rfl rfl λh' st' fr tr up=>?_
  exact k h' t ⟨ZiA hok st0 st' tk,st',nb,fr,tr,tk⟩ ((Heap.UpToSlots.of_keeps hm.keeps).trans up)
end
end L2
namespace L2
open PySem PySem.Spec PyProof.Rows
theorem Zj5{env:Env}{outer:List Env}{L b:Addr}(hf:env.frame=some L):b∈frs (env::outer)↔b=L\/b∈frs outer:=by
  unfold frs
  rw[List.filterMap_cons,hf,Q8]
section
variable{X:Cx}{pins:List (Addr×Obj)}{σ:St}{H1 H2:Hp}{s1:Shared}{B h2 h3:Heap}
theorem ZhF(U:Un (frs X.stack) [] H1 H2 s1.heap h2)(fr:h2.FunFrames B X.stack)(up:h2.UpToSlots h3)(st:B.StaysIn h3)(in1:∀b o,s1.heap.get? b=some o->H1 b=none->b∉frs X.stack->B.get? b=some o)
    (in2:∀b o,s1.heap.get? b=some o->b∉frs X.stack->∃o',B.get? b=some o'):Un (frs X.stack) [] H1 H2 s1.heap h3 where
  keep:=λb o q n hb _=>st b o (in1 b o q n hb)
  slot:=λb o q n hb hx=>by
    obtain ⟨sl,e⟩:=U.slot b o q n hb hx
    obtain ⟨_,o',e',nf⟩:=fr.mem hb
    rw[e] at e'
    cases e'
    obtain ⟨sl',e2⟩:=up b _ e nf
    exact ⟨sl',e2⟩
  free:=U.free
  there:=λb o q hx=>by
    by_cases hb:b∈frs X.stack
    · obtain ⟨_,o',e',nf⟩:=fr.mem hb
      obtain ⟨sl,e2⟩:=up b _ e' nf
      exact ⟨_,e2⟩
    · obtain ⟨o',z⟩:=in2 b o q hb
      exact ⟨o',st b o' z⟩
  tups:=U.tups
  frzs:=U.frzs
  tbls:=U.tbls
theorem ZhG(I:Inv X pins σ H1 s1)(hx:X.ex=[])(hs:X.stack=X.env::X.outer)(hf:X.env.frame=some X.env.locals)(U:Un (frs X.stack) [] H1 H2 s1.heap h2)(fr:h2.FunFrames B X.stack)(up:h2.UpToSlots h3)(st:B.StaysIn h3)
    (in1:∀b o,s1.heap.get? b=some o->H1 b=none->b∉frs X.stack->B.get? b=some o) (in2:∀b o,s1.heap.get? b=some o->b∉frs X.stack->∃o',B.get? b=some o') :
    Un X.fs [] X.H₀ H2 X.s₀.heap h3/\(∀b o,X.s₀.heap.get? b=some o->X.H₀ b=none->b∉X.fs->B.get? b=some o)/\∀b o,X.s₀.heap.get? b=some o->b∉X.fs->∃o',B.get? b=some o':=by
  have V:=ZhF U fr up st in1 in2
  have ib:Un X.fs [] X.H₀ H1 X.s₀.heap s1.heap:=by have:=I.base; rw[hx] at this; exact this
  have ne:∀b o,X.s₀.heap.get? b=some o->b≠X.env.locals:=λb o q z=>by
    subst z
    exact absurd (Q5 (Heap.lt_size q) I.ok.above) (Qx _)
  have nm:∀b o,X.s₀.heap.get? b=some o->b∉X.fs->b∉frs X.stack:=λb o q hb z=>by
    rw[hs] at z
    rcases (Zj5 hf).mp z with e | e
    · exact ne b o q e
    · exact hb e
  have sub:∀b,b∈X.fs->b∈frs X.stack:=λb hb=>by rw[hs]; exact (Zj5 hf).mpr (.inr hb)
  refine ⟨⟨λb o q n hb hx=>?_,λb o q n hb hx=>?_,λb o q n hx=>?_,λb o q hx=>?_,λb xs q=>V.tups b xs (ib.tups b xs q),λb o u q=>V.frzs b o u (ib.frzs b o u q),λb ps q=>?_⟩,λb o q n hb=>?_,λb o q hb=>?_⟩
  · exact V.keep b o (ib.keep b o q n hb hx) (ib.free b o q n hx) (nm b o q hb) hx
  · obtain ⟨sl,e⟩:=ib.slot b o q n hb hx
    obtain ⟨sl',e'⟩:=V.slot b _ e (ib.free b o q n hx) (sub b hb) hx
    exact ⟨sl',e'⟩
  · obtain ⟨o',e⟩:=ib.there b o q hx
    exact V.free b o' e (ib.free b o q n hx) hx
  · obtain ⟨o',e⟩:=ib.there b o q hx
    exact V.there b o' e hx
  · obtain ⟨m1,e1⟩:=ib.tbls b ps q
    obtain ⟨m2,e2⟩:=V.tbls b _ e1
    exact ⟨m1++m2,by rw[e2,Array.append_assoc]⟩
  · exact in1 b o (ib.keep b o q n hb (by simp)) (ib.free b o q n (by simp)) (nm b o q hb)
  · obtain ⟨o',e⟩:=ib.there b o q (by simp)
    exact in2 b o' e (nm b o q hb)
end
section
variable{P:Program}{w:World}{K:PySem.W.Frag}{mg:Str->Option Value}{base:Heap}{N:List Str}{qual:Str}{scope:Scope}{f:Addr}{cd:Value}{A:Around}{outer:List Env}{s:Shared}{H:Hp}{E:XK}
abbrev cxX(P:Program)(w:World)(K:PySem.W.Frag)(mg:Str->Option Value)(base:Heap)(N:List Str)(qual:Str)(scope:Scope)(f:Addr)(cd:Value)(A:Around)(outer:List Env)(s:Shared)(H:Hp)(E:XK):Cx :=
  Zm0 (CXx P w) P w K mg base N qual scope f cd A outer s H E
def Zg9(X:Cx)(E:St->XK):Prop:=∀(pins:List (Addr×Obj)) (σ:St) (H:Hp) (s:Shared) (e:Value) (s':Shared),Inv X pins σ H s->CXx X.prog X.w X.stack H s (E σ) e s'->X.xe e s'
theorem ZhH:Zg9 (cxX P w K mg base N qual scope f cd A outer s H E) λ_=>E:=by
  intro pins σ H1 s1 ev s2 I h
  obtain ⟨e,t,cls,dd,H2,B,rfl,os,bare,U,a,in1,in2,q⟩:=h
  show wpAny (model P w) (A.deeper (envOfC qual scope s.heap.objs.size f cd)) (leaving (envOfC qual scope s.heap.objs.size f cd) (.ref e)) _ _ s2
  have hfr:=I.ok.frames
  refine Air.leave (L:=s.heap.objs.size) a hfr rfl λh3 a3 up=>?_
  obtain ⟨u,i1,i2⟩:=ZhG I rfl rfl rfl U a.fr up a3.st in1 in2
  exact ⟨e,t,cls,dd,H2,B,rfl,os.trans I.os,bare,u,a3,i1,i2,q⟩
theorem ZeC{X:Cx}:Zg9 X λ_=>E0:=λ_ _ _ _ _ _ _ ⟨_,_,_,_,_,_,_,_,_,_,_,_,_,q⟩=>q.elim
def Zj6(X:Cx)(E:XK):Prop:=∀(pins:List (Addr×Obj)) (σ:St) (H:Hp) (s:Shared) (h':Heap) (e:Addr) (cls:Value) (vs:List Value),Inv X pins σ H s->Heap.MadeExcOf s.heap h' e cls vs->E cls none H->X.xe (.ref e) { s with heap:=h' }
theorem Ze3:Zj6 (cxX P w K mg base N qual scope f cd A outer s H E) E:=by
  intro pins σ H1 s1 h' e cls vs I hm q
  show wpAny (model P w) (A.deeper (envOfC qual scope s.heap.objs.size f cd)) (leaving (envOfC qual scope s.heap.objs.size f cd) (.ref e)) _ _ _
  have hfr:=I.ok.frames
  unfold leaving
  refine wpAny_bind (Znf (s:={ s1 with heap:=h' }) I.hok I.stack hm I.stkFree hfr rfl λh2 t a2 u2=>?_)
  refine Air.off (s:={ s1 with heap:=h2 }) a2 λh3 a3 u3=>?_
  obtain ⟨_,_,fr⟩:=a3.fr
  have fr0:s1.heap.FunFrames (PySem.W.hideAll s1.heap (frs (cxX P w K mg base N qual scope f cd A outer s H E).stack)) (cxX P w K mg base N qual scope f cd A outer s H E).stack:=PySem.W.funFrames_hide I.stack λx hx a ha=>Ud.mpr ⟨x,hx,ha⟩
  obtain ⟨u,i1,i2⟩:=ZhG I rfl rfl rfl .refl fr0 (u2.trans u3) a3.st (λb o e _ hb=>PySem.W.hideAll_get _ e hb) (λb o e hb=>⟨o,PySem.W.hideAll_get _ e hb⟩)
  exact ⟨e,t,cls,none,H1,_,rfl,I.os,I.bare,u,⟨a3.hok,a3.st,a3.nb,fr,a3.tr,a3.tk⟩,i1,i2,q⟩
theorem Fun.okx{x qual:Str}{st:Stmt}{f:Addr}{fd:FuncData}{N ps:List Str}{k:Nat}{sp:Sp}(F:Fun K x qual st f fd)(S:FnScope N ps (Zag st))(len:∀vs H Q E,sp vs H Q E->vs.length=ps.length)
    (hbody:∀(cdv:Value) (A:Around) (outer:List Env) (s:Shared) (H:Hp) (vs:List V) (Q:VK) (E:XK),Room k (A.deeper (envOfC qual (Zag st) s.heap.objs.size f cdv))->sp vs H Q E →
      ∃t,PSs (cxX P w K mg base N qual (Zag st) f cdv A outer s H E) (Zbi st) t/\t { nx:=λ_ H'=>Q .non H',rt:=Q } (start N vs) H):FnOk P w K mg base (CXx P w) (k+1) f fd ps sp:=by
  obtain ⟨oc,od,kV,doc,pm,an,cdv,ct,osl,rfl,lk,hcd⟩:=F.ex
  exact Zm1 lk hcd S len λA outer s H vs Q E hr hsp=>hbody cdv A outer s H vs Q E hr hsp
end
structure HasX (P:Program) (w:World) (K:PySem.W.Frag) (mg:Str->Option Value) (base:Heap) (x:Str) (k:Nat) (ps:List Str) (sp:Sp):Prop where
  ex:∃(f:Addr) (fd:FuncData),FnOk P w K mg base (CXx P w) k f fd ps sp/\mg x=some (.ref f)/\PySem.W.keepIn K (.ref f)=true/\Binds K fd ps []
structure HasMX (P:Program) (w:World) (K:PySem.W.Frag) (mg:Str->Option Value) (base:Heap) (C:Addr) (m:Str) (k:Nat) (ps:List Str) (dvs:List V) (sp:Sp):Prop where
  ex:∃(f:Addr) (fd:FuncData) (ds:List Value),FnOk P w K mg base (CXx P w) k f fd ps sp/\Meth K C m f/\Binds K fd ps ds/\Vals dvs ds
structure HasIX (P:Program) (w:World) (K:PySem.W.Frag) (mg:Str->Option Value) (base:Heap) (C:Addr) (k:Nat) (ps:List Str) (sp:Sp):Prop where
  ex:∃(f:Addr) (fd:FuncData),Mk K C f/\FnOk P w K mg base (CXx P w) k f fd ps sp/\Binds K fd ps []
section
variable{P:Program}{w:World}{K:PySem.W.Frag}{mg:Str->Option Value}{base:Heap}{x m qual:Str}{C:Addr}{st:Stmt}{j k:Nat}{ps:List Str}{dvs:List V}{sp:Sp}
theorem HasX.mono(h:HasX P w K mg base x j ps sp)(e:j<=k):HasX P w K mg base x k ps sp:=let ⟨f,fd,a,b,c,d⟩:=h.ex; ⟨f,fd,a.mono e,b,c,d⟩
theorem HasMX.mono(h:HasMX P w K mg base C m j ps dvs sp)(e:j<=k):HasMX P w K mg base C m k ps dvs sp:=let ⟨f,fd,ds,a,b,c,d⟩:=h.ex; ⟨f,fd,ds,a.mono e,b,c,d⟩
theorem Here.hasX(h:Here K mg x st)(b:∀f fd,Fun K x x st f fd->Binds K fd ps [])(ok:∀f fd,Fun K x x st f fd->FnOk P w K mg base (CXx P w) k f fd ps sp):HasX P w K mg base x k ps sp :=
  let ⟨f,fd,F,m⟩:=h.ex
  ⟨f,fd,ok f fd F,m,F.kp,b f fd F⟩
theorem HereM.hasMX(h:HereM K C m qual st)(b:∀f fd,Fun K m qual st f fd->Binds K fd ps [])(ok:∀f fd,Fun K m qual st f fd->FnOk P w K mg base (CXx P w) k f fd ps sp):HasMX P w K mg base C m k ps [] sp :=
  let ⟨f,fd,F,M⟩:=h.ex
  ⟨f,fd,[],ok f fd F,M,b f fd F,.nil⟩
end
section
variable{X:Cx}{k:Nat}{f C:Addr}{fd:FuncData}{ps:List Str}{sp:Sp}{dvs:List V}{ds:List Value}{E:St->XK}{x m:Str}{p pos apos:Pos}{e o:Expr}{es:List Expr}{ta:TE}{t:TA}
theorem Zj7{pins:List (Addr×Obj)}{σ:St}{H:Hp}{s:Shared}{Q:VK}{us:List Value}{vs:List V}(F:FnOk X.prog X.w X.K X.mg X.base (CXx X.prog X.w) k f fd ps sp)(hr:Room k X.A)(hb:Binds X.K fd ps ds)(hd:Vals dvs ds)(hx:Zg9 X E)
    (I:Inv X pins σ H s) (r:Vals vs us) (h:sp (vs++dvs) H Q (E σ)):wpAny (model X.prog X.w) X.A (call (.ref f) us) (EP X pins σ Q) X.xe s:=by
  have r2:Vals (vs++dvs) (us++ds):=r.append hd
  have hl:(us++ds).length=ps.length:=by rw[<-r2.length]; exact F.len _ _ _ _ h
  refine wpAny_call (codeAny_mono (F.run X.A X.stack s H ⟨us,[]⟩ (us++ds) (vs++dvs) Q (E σ) hr I.env0 (hb s us I.kIn hl) r2 h) λr s' hq=>?_)
  cases r with
  | error e=>exact hx pins σ H s e s' I hq
  | ok fl =>
    cases fl with
    | ret u=>exact I.after hq
    | next=>exact False.elim hq
    | brk=>exact False.elim hq
    | cont=>exact False.elim hq
theorem Zcr(h:HasX X.prog X.w X.K X.mg X.base x k ps sp)(hx:Zg9 X E)(hr:Room k X.A)(hg:Gl X x)(ha:PA X (e::es) t)(hdb:(x==("__debug__" : Str))=false:=by decide)
    (he:starEach (e::es) X.env=(false,eval e X.env)::starEach es X.env:=by rfl) (hpl:(backTo pos (starEach es X.env)).any (·.1)=false:=by rfl) :
    PE X (.Call (.Name x p) (e::es) [] pos) (λσ H Q=>t σ H λvs H1=>sp vs H1 Q (E σ)):=by
  obtain ⟨f,fd,F,hm,hk,hb⟩:=h.ex
  intro pins s σ H Q I h
  refine wpAny_Call_Name_kw (Zcm I hg hm ?_ hdb)
  refine PySem.W.callWith_K (h₀:=X.base) I.ok.mod.kin hk (thn (ha pos pins s σ H _ I h) λus s1 ⟨vs,H1,I1,r,q⟩=>⟨I1.kIn,?_⟩) he hpl
  exact Zj7 (dvs:=[]) F hr hb .nil hx I1 r (by rw[Uu]; exact q)
def ZmA(P:Program)(w:World)(K:PySem.W.Frag)(mg:Str->Option Value)(base:Heap)(m:Str)(k:Nat)(E:St->XK)(ta:TE)(t:TA):TE:=λσ H Q=>ta σ H λx H1=>∃a C dx fs ps dvs sp,x = .ref a/\H1 a=some (.ins C dx fs)/\Cls K C/\HasMX P w K mg base C m k ps dvs sp/\fs.lookup m=none ∧
  t σ H1 λvs H2=>sp (x::(vs++dvs)) H2 Q (E σ)
theorem Zbl{pl:Sem Bool}(he:PE X o ta)(hx:Zg9 X E)(hr:Room k X.A)(ha:PA X (e::es) t)
    (hst:starEach (e::es) X.env=(false,eval e X.env)::starEach es X.env:=by rfl) (hpl:(backTo pos (starEach es X.env)).any (·.1)=false:=by rfl)
    (ht:eval (.Call (.Attribute o m apos) (e::es) [] pos) X.env=(do
      let ov ← eval o X.env
      standAt apos.atName
      let (f,first) ← holding [ov] (getMethod ov m pl)
      callWith pos f first (backTo pos (starEach (e::es) X.env)) (backToKw pos (keywordEach [] X.env))):=by rfl) :
    PE X (.Call (.Attribute o m apos) (e::es) [] pos) (ZmA X.prog X.w X.K X.mg X.base m k E ta t):=by
  intro pins s σ H Q I h
  refine PySem.W.methodCall_KW (pl:=pl) (thn (he pins s σ H _ I h) λu s1 ⟨x,H1,I1,rx,a,C,dx,fs,ps,dvs,sp,ex,ea,c,hM,l,q⟩=>?_) ht
  subst ex
  obtain rfl:u=Value.ref a:=rx
  obtain ⟨f,fd,ds,F,hm,hb,hd⟩:=hM.ex
  refine ZfQ I1 ea c hm l ?_
  refine PySem.W.callWith_K (first:=[.ref a]) (h₀:=X.base) I.ok.mod.kin hm.kp (thn (ha pos pins s1 σ H1 _ I1 q) λus s2 ⟨vs,H2,I2,r,q2⟩=>⟨I2.kIn,?_⟩) hst hpl
  exact Zj7 (us:=.ref a::us) (vs:=.ref a::vs) F hr hb hd hx I2 (.cons rfl r) q2
end
end L2
namespace L2
open PySem PySem.Spec PyProof.Rows
abbrev bmV:List Value:=[.type "ValueError", .type "Exception", .type "BaseException", .type "object"]
structure ExcC (K:PySem.W.Frag) (mg:Str->Option Value) (x:Str) (C:Addr):Prop where
  cls:XCls K C
  mgx:mg x=some (.ref C)
  ein:PySem.W.excIn K C bmV "ValueError.__new__" = true
theorem ExcC.obj{K:PySem.W.Frag}{mg:Str->Option Value}{x:Str}{C:Addr}(c:ExcC K mg x C){h:Heap}(X:K.In h):OwnCls x C bmV "ValueError.__new__" mg h:=by
  refine ⟨c.mgx,?_⟩
  have q:=c.ein
  unfold PySem.W.excIn at q
  split at q
  · rename_i dd cd sl ho
    split at q
    · rename_i C' bm k0 k1 k2 k3 n k5 hm hs
      simp only[Uj,beq_iff_eq,Bool.not_eq_true'] at q
      obtain ⟨⟨⟨⟨⟨rfl,rfl⟩,hdel⟩,ht⟩,hok⟩,hni⟩:=q
      obtain ⟨nm,bs,mro,ns,qn,hd,sn,sub,ab,col,del⟩:=cd
      dsimp only at hm hdel hok hni
      subst hm hdel
      obtain ⟨l⟩:=sl
      have hl:l=[k0,k1,k2,k3,some (.builtin "ValueError.__new__"),k5]:=hs
      subst hl
      exact ⟨bm,ns,nm,qn,bs,hd,sn,sub,ab,col,dd,k0,k1,k2,k3,k5,_,X _ _ ho,.of_isNs (PySem.W.isNs_of_in X hok),PySem.W.nsMap_none_of_in X hok hni,PySem.W.tail_of_in X ht⟩
    · cases q
  · cases q
section
variable{X:Cx}{k:Nat}{C:Addr}{ps:List Str}{sp:Sp}{x m:Str}{p pos np cpos:Pos}{e:Expr}{es:List Expr}{t:TA}
theorem Zcs{E:XK}(c:ExcC X.K X.mg x C)(hR:Zj6 X E)(hcalm:X.calm=true)(hg:Gl X x)(ha:PA X (e::es) t)(hl:(e::es).length<=1000:=by decide)
    (he:starEach (e::es) X.env=(false,eval e X.env)::starEach es X.env:=by rfl) (hpl:(backTo cpos (starEach es X.env)).any (·.1)=false:=by rfl) (hdb:(x==("__debug__" : Str))=false:=by decide) :
    PS X (.Raise (some (.Call (.Name x np) (e::es) [] cpos)) none pos) (λ_ σ H=>t σ H λvs H1=>vs.length<=1000/\E (.ref C) none H1):=by
  intro pins s σ H D I h
  obtain ⟨bm,N,nm,q,bs,hdct,sn,sub,ab,col,dd,k0,k1,k2,k3,k5,mN,hC,hN,hni,T⟩:=(c.obj I.mod.kin).obj
  refine wpAny_Raise_call_subT (C:=C) (nm:=nm) (q:=q) (N:=N) (bs:=bs) (bm:=bm) (hdct:=hdct) (sn:=sn) (sub:=sub) (ab:=ab) (col:=col) (dd:=dd) (k0:=k0) (k1:=k1) (k2:=k2) (k3:=k3) (k5:=k5) PySem.F.excBase_ValueError
    (mN:=mN) (T.hasType PySem.F.excBase_ValueError.hasBase) (I.ok.hd hcalm) (by rw[he]; show (false||(backTo cpos (starEach es X.env)).any (·.1))=false; rw[hpl]; rfl) hni (Zcm I hg c.mgx ⟨rfl,?_⟩ hdb)
  have z:=ha cpos pins s σ H _ I h
  rw[he] at z ⊢
  refine Calls.evalArgs_plain (wpAny_mono z (λus s2 ⟨vs,H2,I2,r,hv,q2⟩=>⟨rfl,?_,I2.bk _ _ hC,hN.keeps I2.bk,T.keeps I2.bk,λh' e' hm=>hR pins σ H2 s2 h' e' _ _ I2 hm q2⟩) λ_ _ y=>y)
  rw[<-r.length]
  exact Wv (ZcN hv)
end
end L2
namespace L2
open PySem PySem.Spec PyProof.Rows
def Zj8(e C:Addr)(dd:Option Addr):HO:=.ext λh=>∃oe vs,h.get? e=some oe/\oe.cls = .ref C/\oe.dict=dd/\oe.data = .fields vs
section
variable{X:Cx}{pins:List (Addr×Obj)}{σ σ1:St}{H H1:Hp}{s s1:Shared}{e C:Addr}{dd:Option Addr}
theorem Inv.track(I:Inv X pins σ H s)(I1:Inv X pins σ1 H1 s1)(ne:s1.heap.get? e=none)(hn:H e=none){oe:Obj}{vs:Array Value}(he:s.heap.get? e=some oe)(hc:oe.cls = .ref C)(hd:oe.dict=dd)(hv:oe.data = .fields vs):Inv X pins σ (upd H e (Zj8 e C dd)) s:=by
  have nx:∀b u,H b=some u->b≠e:=λb u q z=>by subst z; rw[hn] at q; cases q
  have nh:∀b o,s1.heap.get? b=some o->b≠e:=λb o q z=>by subst z; rw[ne] at q; cases q
  have ib:=I.base
  refine ⟨I.ok,I.os,I.bare,⟨ib.keep,ib.slot,λb o q n hx=>?_,ib.there,λb xs q=>?_,λb o u q=>?_,λb ps q=>?_⟩,I.loc,I.cell,?_,λx c q=>?_,λp hp=>?_,λb u q=>?_,I.len⟩
  · obtain ⟨o',z⟩:=I1.base.there b o q hx
    rw[Zas (nh b o' z)]
    exact ib.free b o q n hx
  · have z:=ib.tups b xs q
    rw[Zas (nx b _ z)]; exact z
  · have z:=ib.frzs b o u q
    rw[Zas (nx b _ z)]; exact z
  · obtain ⟨m,z⟩:=ib.tbls b ps q
    exact ⟨m,by rw[Zas (nx b _ z)]; exact z⟩
  · obtain ⟨m,⟨o,es,ep,z,_⟩,_⟩:=I1.loc
    rw[Zas (nh _ o z)]; exact I.free
  · obtain ⟨v,o,z,_⟩:=I1.cell x c q
    rw[Zas (nh _ o z)]; exact I.freeC x c q
  · obtain ⟨a,b,c,d,f⟩:=I.pin p hp
    exact ⟨a,by rw[Zas (nh _ _ (I1.pin p hp).1)]; exact b,c,d,f⟩
  · by_cases hb:b=e
    · subst hb
      rw[Zaf] at q
      cases q
      refine ⟨⟨oe,vs,he,hc,hd,hv⟩,⟨oe,he⟩,λh1 h2=>?_⟩
      rintro ⟨o1,v1,a,b,c,d⟩ k
      exact ⟨o1,v1,k _ a,b,c,d⟩
    · rw[Zas hb] at q
      exact (I.hok b u q).stay (λc v _ z=>z) (λc z=>by rw[Zas (nx c _ z)]; exact z) λc xs z=>by rw[Zas (nx c _ z)]; exact z
def Cx.suite(X:Cx)(e:Addr):Cx:={ X with A:=X.A.mark (some (.ref e)),calm:=false,xe:=λ_ _=>False }
theorem Inv.suite(I:Inv X pins σ H s)(e:Addr):Inv (X.suite e) pins σ H s :=
  ⟨⟨I.ok.mod,I.ok.kind,I.ok.glob,I.ok.blt,I.ok.above,I.ok.inj,I.ok.has,I.ok.cab,(λz=>nomatch z),I.ok.frames,I.ok.stk,I.ok.exf,I.ok.bs,I.ok.bsz,I.ok.noex,I.ok.exfs,I.ok.funs,I.ok.frf⟩,I.os,I.bare,I.base,I.loc,I.cell,I.free,I.freeC,I.pin,I.hok,I.len⟩
theorem Inv.unsuite(ok:X.Ok)(I:Inv (X.suite e) pins σ H s):Inv X pins σ H s:=⟨ok,I.os,I.bare,I.base,I.loc,I.cell,I.free,I.freeC,I.pin,I.hok,I.len⟩
abbrev Cx.tryB(X:Cx)(pn:List (Addr×Obj))(xe:Value->Shared->Prop):Cx:={ X with pn:=pn,xe:=xe }
theorem Inv.tryB(I:Inv X pins σ H s)(xe:Value->Shared->Prop):Inv (X.tryB (X.pn++pins) xe) [] σ H s :=
  ⟨⟨I.ok.mod,I.ok.kind,I.ok.glob,I.ok.blt,I.ok.above,I.ok.inj,I.ok.has,I.ok.cab,I.ok.hd,I.ok.frames,I.ok.stk,I.ok.exf,I.ok.bs,I.ok.bsz,I.ok.noex,I.ok.exfs,I.ok.funs,I.ok.frf⟩,I.os,I.bare,I.base,I.loc,I.cell,I.free,I.freeC,λp hp=>I.pin p (by rw[Uu] at hp; exact hp),I.hok,I.len⟩
theorem Inv.untryB{xe:Value->Shared->Prop}{pins':List (Addr×Obj)}(ok:X.Ok)(I:Inv (X.tryB (X.pn++pins) xe) pins' σ H s):Inv X pins σ H s :=
  ⟨ok,I.os,I.bare,I.base,I.loc,I.cell,I.free,I.freeC,λp hp=>I.pin p (Us _ hp),I.hok,I.len⟩
theorem Inv.drop{i:Nat}{n:Str}{h':Heap}{v:Option Value}{m:Str->Option Value}{t':Nat}(I:Inv X pins σ H s)(hN:X.N.Nodup)(hi:X.N[i]?=some n)(hm:s.heap.Ns X.env.locals m)
    (hl:∀(j:Nat) (x:Str) (u:V),X.N[j]?=some x->σ[j]?=some (some u)->Vis X.env.scope x->∃z,RelV u z/\Zpy X.env s.heap m x z)
    (hn:h'.Ns X.env.locals (λx=>if x=n then v else m x)) (sb:Heap.SameBut X.env.locals s.heap h'):Inv X pins (σ.set i none) H { s with heap:=h',toks:=t' }:=by
  have keep:∀b o,b≠X.env.locals->s.heap.get? b=some o->h'.get? b=some o:=λb o hb q=>sb.extBut b o hb q
  have ne0:∀b o,X.s₀.heap.get? b=some o->b≠X.env.locals:=λb o q z=>by
    subst z
    exact absurd (Q5 (Heap.lt_size q) I.ok.above) (Qx _)
  have nt:∀b u,H b=some u->b≠X.env.locals:=λb u q z=>by subst z; rw[I.free] at q; cases q
  have ib:=I.base
  have hσ:i<σ.length:=by rw[I.len]; exact (Qw.mp hi).1
  refine ⟨I.ok,I.os,I.bare,⟨λb o q a c d=>keep b o (ne0 b o q) (ib.keep b o q a c d),λb o q a c d=>?_,ib.free,λb o q d=>?_,ib.tups,ib.frzs,ib.tbls⟩,⟨_,hn,λj x u a b c=>?_⟩,λx c q=>?_,I.free,I.freeC,λp hp=>?_,λb u q=>?_,?_⟩
  · obtain ⟨sl,z⟩:=ib.slot b o q a c d
    exact ⟨sl,keep b _ (ne0 b o q) z⟩
  · obtain ⟨o',z⟩:=ib.there b o q d
    exact ⟨o',keep b o' (ne0 b o q) z⟩
  · have hji:j≠i:=λz=>by
      subst z
      rw[List.getElem?_set_self hσ] at b
      cases b
    rw[List.getElem?_set_ne (Ne.symm hji)] at b
    obtain ⟨z,r,lk⟩:=hl j x u a b c
    have hxn:x≠n:=λz=>by
      subst z
      exact hji ((List.getElem?_inj (Qw.mp a).1 hN).mp (a.trans hi.symm))
    refine ⟨z,r,?_⟩
    rcases lk with ⟨k1,k2⟩ | ⟨k1,cc,k2,oc,k3,k4⟩
    · exact .inl ⟨k1,by show (if x=n then v else m x)=some z; rw[if_neg hxn]; exact k2⟩
    · exact .inr ⟨k1,cc,k2,oc,keep _ _ (I.cne x cc k2) k3,k4⟩
  · obtain ⟨v0,oc,k3,k4⟩:=I.cell x c q
    exact ⟨v0,oc,keep _ _ (I.cne x c q) k3,k4⟩
  · obtain ⟨a,b,c,d,f⟩:=I.pin p hp
    exact ⟨keep _ _ c a,b,c,d,f⟩
  · exact (I.hok b u q).stay (λc w hc z=>keep c w (by rcases hc with rfl | hc; exact nt _ _ q; exact nt _ _ hc) z) (λ_ z=>z) λ_ _ z=>z
  · rw[W7]; exact I.len
theorem ZhI{prog:Program}{w:World}{A:Around}{E:Value->Shared->Prop}{K:PySem.W.Frag}{CE:Addr}{Q:Bool->Shared->Prop}{oe:Obj}(KX:K.In s.heap)(ht:PySem.W.typeIn K (.ref CE)=some (.type "type")) (hb:PySem.W.mroIn K CE (.type "BaseException")=some true)
    (hcl:(PySem.W.clsIn K CE).isSome=true) (hm:PySem.W.mroIn K C (.ref CE)=some true) (he:s.heap.get? e=some oe) (hc:oe.cls = .ref C) (h:Q true s):wpAny (model prog w) A (excMatches (.ref e) (.ref CE)) Q E s:=by
  obtain ⟨hh,g,d,tk,os⟩:=s
  have L1:=PySem.W.looks_typeIn (M:=model prog w) KX ht
  have L2:=PySem.W.looks_mroIn (M:=model prog w) KX hb
  have L3:=PySem.W.looks_mroIn (M:=model prog w) KX hm
  have L0:PySem.W.Looks (model prog w) hh (typeOf (.ref e)) (.ref C):=hc ▸ (PySem.W.Looks.ld he).andThen .now
  have f:=tc_notTuple
  have L4:PySem.W.Looks (model prog w) hh (isInstance (.ref CE) (.type "tuple")) false:=L1.andThen (PySem.W.Looks.of_pure f)
  have L5:PySem.W.Looks (model prog w) hh (isType (.ref CE)) true:=by
    obtain ⟨cd,z⟩:=Option.isSome_iff_exists.mp hcl
    unfold PySem.W.clsIn at z
    split at z
    · rename_i c' d' cd' sl' ho
      intro A' Q' E' s' k q
      unfold isType loadHead
      exact wpAny_bind (wpAny_loadPart (k _ _ (KX _ _ ho)) (wpAny_pure q))
    · cases z
  unfold excMatches
  refine wpAny_bind (m:=isInstance (.ref CE) (.type "tuple")) (L4.at ?_)
  refine wpAny_bind (m:=(pure [Value.ref CE]:Sem (List Value))) (wpAny_pure ?_)
  refine wpAny_bind ?_
  rw[List.forIn_cons]
  refine wpAny_bind (wpAny_bind (m:=isExcClass (.ref CE)) ?_)
  unfold isExcClass
  refine wpAny_bind (L5.at (L2.at ?_))
  refine wpAny_pure (wpAny_pure (a:=PUnit.unit) ?_)
  refine wpAny_bind (L0.at (wpAny_bind ?_))
  rw[List.forIn_cons]
  refine wpAny_bind (wpAny_bind (L3.at ?_))
  refine wpAny_pure (wpAny_pure (wpAny_pure h))
def ZmB(K:PySem.W.Frag)(CE:Addr)(i:Nat)(ts:Addr->TS)(D:Ends):St->XK:=λσ1 cls dd H1=>∃C,cls = .ref C/\PySem.W.mroIn K C (.ref CE)=some true ∧
  ∀e,H1 e=none->ts e { nx:=λσ2 H2=>D.nx (σ2.set i none) H2,rt:=λ_ _=>False } (σ1.set i (some (.ref e))) (upd H1 e (Zj8 e C dd))
def Zp4(K:PySem.W.Frag)(CE:Addr)(i:Nat)(tb:(St->XK)->List (Addr×Obj)->(Value->Shared->Prop)->TS)(ts:Addr->TS):TS:=λD σ H=>∀pn xe,tb (ZmB K CE i ts D) pn xe D σ H
structure CatC (K:PySem.W.Frag) (mg:Str->Option Value) (x:Str) (CE:Addr):Prop where
  mgx:mg x=some (.ref CE)
  ty:PySem.W.typeIn K (.ref CE)=some (.type "type")
  be:PySem.W.mroIn K CE (.type "BaseException")=some true
  cl:(PySem.W.clsIn K CE).isSome=true
theorem Zoq{body:List Stmt}{b₀:Stmt}{suite:List Stmt}{cx n:Str}{np hpos pos:Pos}{i:Nat}{CE:Addr}{tb:(St->XK)->List (Addr×Obj)->(Value->Shared->Prop)->TS}{ts:Addr->TS}(cE:CatC X.K X.mg cx CE)(hN:X.N.Nodup)(hi:X.N[i]?=some n)(hl:X.env.scope.names.lookup n=some .local)(hg:Gl X cx)
    (hb:∀(E:St->XK) (pn:List (Addr×Obj)) (xe:Value->Shared->Prop),Zg9 (X.tryB pn xe) E->PSs (X.tryB pn xe) body (tb E pn xe)) (hs:∀e,PSs (X.suite e) (b₀::suite) (ts e))
    (hstk:X.stack=X.env::X.outer:=by rfl) (hf:X.env.frame=some X.env.locals:=by rfl) (hdb:(cx==("__debug__" : Str))=false:=by decide) :
    PS X (.Try body [.ExceptHandler (some (.Name cx np)) (some n) (b₀::suite) hpos] [] [] pos) (Zp4 X.K CE i tb ts):=by
  intro pins s σ H D I h
  let EE:=ZmB X.K CE i ts D
  let XE:Value->Shared->Prop:=λev s'=>∃σ1 H1 s1,Inv X pins σ1 H1 s1/\CXx X.prog X.w X.stack H1 s1 (EE σ1) ev s'
  have pass:Zg9 (X.tryB (X.pn++pins) XE) EE:=λpins' σ1 H1 s1 ev s' I' h'=>⟨σ1,H1,s1,I'.untryB I.ok,h'⟩
  have back:∀f s',SP (X.tryB (X.pn++pins) XE) [] D f s'->SP X pins D f s':=λf s' q=>by
    cases f with
    | next=>obtain ⟨σ',H',J,q⟩:=q; exact ⟨σ',H',J.untryB I.ok,q⟩
    | brk=>obtain ⟨σ',H',J,q⟩:=q; exact ⟨σ',H',J.untryB I.ok,q⟩
    | cont=>obtain ⟨σ',H',J,q⟩:=q; exact ⟨σ',H',J.untryB I.ok,q⟩
    | ret u=>obtain ⟨v,σ',H',J,r,q⟩:=q; exact ⟨v,σ',H',J.untryB I.ok,r,q⟩
  refine wpAny_Try_except (wpAny_mono (hb EE _ XE pass [] s σ H D (I.tryB XE) (h _ _)) (λf s1 q=>?_) λev s2 hx=>?_)
  · have q':=back f s1 q
    cases f with
    | next=>exact wpAny_execs_nil q'
    | brk=>exact q'
    | cont=>exact q'
    | ret u=>exact q'
  obtain ⟨σ1,H1,s1,I1,e,t,cls,dd,H2,B,rfl,os,bare,U,a,in1,in2,C,rfl,hm,k⟩:=hx
  have hfr:=I.ok.frames
  rw[hstk] at hfr
  have a':Air X.prog X.w B (X.env::X.outer) H2 s2.heap e t (.ref C) dd .none:=by rw[<-hstk]; exact a
  refine a'.note hfr hf λh4 a4 u4=>?_
  refine Air.off (s:={ s2 with heap:=h4 }) a4 λh5 a5 u5=>?_
  have U5:=ZhF U a.fr (u4.trans u5) a5.st in1 in2
  have I5:Inv X pins σ1 H2 { s2 with heap:=h5 }:=I1.call' (ch:=[]) os U5 a5.hok bare λb z=>absurd z (by simp)
  refine wpAny_handleBy_cons (codeAny_handlers_test (Zcm (X:=X.suite e) (I5.suite e) hg cE.mgx ?_ hdb)) (by intro q; cases q)
  obtain ⟨oe,vs,T,oT,tvs,he5,hc5,_⟩:=id a5.tr
  refine ZhI (s:={ s2 with heap:=h5 }) I5.kIn cE.ty cE.be cE.cl hm he5 hc5 ?_
  refine codeAny_handlers_suite_as (Air.off (s:={ s2 with heap:=h5 }) a5 λh6 a6 u6=>?_)
  have U6:=ZhF U a.fr ((u4.trans u5).trans u6) a6.st in1 in2
  have I6:Inv X pins σ1 H2 { s2 with heap:=h6 }:=I1.call' (ch:=[]) os U6 a6.hok bare λb z=>absurd z (by simp)
  obtain ⟨oe6,vs6,T6,oT6,tvs6,he6,hc6,hd6,hv6,_⟩:=id a6.tr
  have ne1:s1.heap.get? e=none:=by
    cases q:s1.heap.get? e with
    | none=>rfl
    | some o =>
      by_cases hb:e∈frs X.stack
      · obtain ⟨_,o',z,nf⟩:=a6.fr.mem (by rw[hstk] at hb; exact hb)
        rw[he6] at z; cases z; exact absurd hv6 (nf _)
      · obtain ⟨o',z⟩:=in2 e o q hb
        rw[a.nb] at z; cases z
  have I7:=I6.track I1 ne1 a6.free he6 hc6 hd6 hv6
  refine Zdc (X:=X) (v:=.ref e) I7 hN hi (.inl hl) rfl (λs8 I8=>?_) (.inr hl)
  refine wpAny_mono (hs e pins s8 _ _ _ (I8.suite e) (k e a6.free)) (λf s9 q=>?_) λ_ _ z=>False.elim z
  cases f with
  | brk=>obtain ⟨_,_,_,z⟩:=q; exact False.elim z
  | cont=>obtain ⟨_,_,_,z⟩:=q; exact False.elim z
  | ret u=>obtain ⟨_,_,_,_,_,z⟩:=q; exact False.elim z
  | next =>
    obtain ⟨σ9,H9,J,q⟩:=q
    have I9:=J.unsuite I.ok
    obtain ⟨m,hn,lk⟩:=id I9.loc
    refine wpAny_nameGoes_keeps hl hn (by rw[I.ok.kind]; rfl) λh' v hn' sb=>?_
    exact ⟨_,_,I9.drop hN hi hn lk hn' sb,q⟩
end
end L2
namespace L2
open PySem PySem.Spec PyProof.Rows
inductive TyX (K:PySem.W.Frag) (H:Hp):V->Value->Prop where
  | of {x:V} {t:Value} (h:Zit K H x t):TyX K H x t
  | exc {e C:Addr} (h:H e=some (Zj8 e C none)) (c:XCls K C):TyX K H (.ref e) (.ref C)
inductive Zor (K:PySem.W.Frag) (H:Hp) (t:Value):V->Bool->Prop where
  | ty {T:String} {b:Bool} (h:PySem.W.kitOne K t (.type T)=some b):Zor K H t (.ty T) b
  | ref {C:Addr} {b:Bool} (h:PySem.W.kitOne K t (.ref C)=some b):Zor K H t (.ref C) b
  | tup {tp:Addr} {cs:List Addr} {b:Bool} (h:H tp=some (.tup (cs.map V.ref))) (q:PySem.W.kitAny K t (cs.map Value.ref)=some b):Zor K H t (.ref tp) b
theorem Ze4:∀ {cs:List Addr} {us:List Value},Vals (cs.map V.ref) us->us=cs.map Value.ref
  | [],_,.nil=>rfl
  | _::_,_,.cons r t=>by cases (show _=Value.ref _ from r); rw[Ze4 t]; rfl
section
variable{X:Cx}
theorem Zbg:CallR X (.builtin "isinstance") (λxs H Q=>∃x c t b,xs=[x,c]/\TyX X.K H x t/\Zor X.K H t c b/\Q (.bl b) H):=by
  intro pins s σ H xs us Q I r h
  obtain ⟨x,c,t,b,rfl,ty,ask,q⟩:=h
  obtain ⟨u,w',rfl,r1,r2⟩:=Zi2 r
  have fin:∀tk,EP X pins σ Q (.bool b) { s with toks:=tk }:=λtk=>⟨.bl b,H,I.tok _,rfl,q⟩
  obtain ⟨G,Z,g,hb⟩:∃G:Heap->Prop,PySem.W.KitX X.K u t G/\G s.heap/\u ≠ .builtin "__main__.__loader__#opaque" := by
    cases ty with
    | exc he c =>
      rename_i e C
      cases (show u=Value.ref e from r1)
      obtain ⟨⟨oe,vs,a1,a2,a3,a4⟩,_,_⟩:=(show ObjOk X.prog X.w H s.heap e (Zj8 e C none) from I.hok e _ he)
      refine ⟨_,Ziz c,⟨oe,none,a1,a2,?_,?_⟩,λz=>nomatch z⟩
      · unfold PySem.W.notCls; rw[a4]
      · rw[a3]; trivial
    | of ty =>
      cases ty with
      | non=>cases (show u=Value.none from r1); exact ⟨_,PySem.W.kitx_none,True.intro,λz=>nomatch z⟩
      | bl y=>cases (show u=Value.bool y from r1); exact ⟨_,PySem.W.kitx_bool,True.intro,λz=>nomatch z⟩
      | int i=>obtain ⟨t,q⟩:=(show ∃t,u=Value.int i t from r1); cases q; exact ⟨_,PySem.W.kitx_int,True.intro,λz=>nomatch z⟩
      | str y=>obtain ⟨t,q⟩:=(show ∃t,u=Value.str y t from r1); cases q; exact ⟨_,PySem.W.kitx_str,True.intro,λz=>nomatch z⟩
      | flt y=>obtain ⟨t,q⟩:=(show ∃t,u=Value.float y t from r1); cases q; exact ⟨_,PySem.W.kitx_float,True.intro,λz=>nomatch z⟩
      | @lst a xs ea =>
        cases (show u=Value.ref a from r1)
        obtain ⟨_,_,n,_,h1⟩:=(show ObjOk X.prog X.w H s.heap a (.lst xs) from I.hok a _ ea)
        exact ⟨_,PySem.W.kitx_list,⟨_,h1,rfl⟩,λz=>nomatch z⟩
      | @frz a ob xs ea =>
        cases (show u=Value.ref a from r1)
        obtain ⟨_,_,_,n,_,h1⟩:=(show ObjOk X.prog X.w H s.heap a (.frz ob (.lst xs)) from I.hok a _ ea)
        exact ⟨_,PySem.W.kitx_list,⟨_,h1,rfl⟩,λz=>nomatch z⟩
      | @tup a xs ea =>
        cases (show u=Value.ref a from r1)
        obtain ⟨_,_,_,p⟩:=(show ObjOk X.prog X.w H s.heap a (.tup xs) from I.hok a _ ea)
        obtain ⟨o,h1,h2,_⟩:=p
        exact ⟨_,PySem.W.kitx_tuple,⟨o,h1,h2⟩,λz=>nomatch z⟩
      | @dK a kvs ea =>
        cases (show u=Value.ref a from r1)
        obtain ⟨_,_,vs,_,p⟩:=(show ObjOk X.prog X.w H s.heap a (.dK kvs) from I.hok a _ ea)
        obtain ⟨o,es,ep,h1,h2,_⟩:=p
        exact ⟨_,PySem.W.kitx_dict,⟨o,h1,h2.1⟩,λz=>nomatch z⟩
      | @dT a kvs ea =>
        cases (show u=Value.ref a from r1)
        obtain ⟨_,_,xs,_,o,es,ep,h1,h2,_⟩:=(show ObjOk X.prog X.w H s.heap a (.dT kvs) from I.hok a _ ea)
        exact ⟨_,PySem.W.kitx_dict,⟨o,h1,h2.1⟩,λz=>nomatch z⟩
      | @ins a C dx fs ea cl ha hn htk hm =>
        cases (show u=Value.ref a from r1)
        obtain ⟨mA,O,_⟩:=ZeY I.hok ea
        obtain ⟨od,J,_⟩:=O.look
        exact ⟨_,PySem.W.kitx_own (cl.get _) cl.hd ha hn htk hm,J,λz=>nomatch z⟩
  cases ask with
  | ty k=>cases (show w'=Value.type _ from r2); exact PySem.W.kia_one Z I.kIn g k hb fin
  | ref k=>cases (show w'=Value.ref _ from r2); exact PySem.W.kia_one Z I.kIn g k hb fin
  | @tup tp cs b ht k =>
    cases (show w'=Value.ref tp from r2)
    obtain ⟨_,its,rv,o,h1,h2,n,h3⟩:=(show ObjOk X.prog X.w H s.heap tp (.tup (cs.map V.ref)) from I.hok tp _ ht)
    obtain ⟨oc,od,odt,osl⟩:=o
    dsimp only at h2 h3
    subst h2 h3
    exact PySem.W.kia_tup Z I.kIn g h1 (by rw[Ze4 rv]; exact k) hb fin
end
theorem Zng{K:PySem.W.Frag}{C D:Addr}{b:Bool}(hc:(PySem.W.clsIn K D).isSome=true)(ht:PySem.W.typeIn K (.ref D)=some (.type "type")) (hm:PySem.W.mroIn K C (.ref D)=some b) (hne:C≠D):PySem.W.kitOne K (.ref C) (.ref D)=some b:=by
  unfold PySem.W.kitOne PySem.W.kitCls
  rw[if_neg (λz=>hne (Value.ref.inj (beq_iff_eq.mp z)))]
  show (if ((PySem.W.clsIn K D).isSome&&PySem.W.typeIn K (.ref D)==some (.type "type"))=true then PySem.W.subIn K (.ref C) (.ref D) else none)=some b
  rw[hc,ht]
  exact hm
theorem ZiB{K:PySem.W.Frag}{C:Addr}:PySem.W.kitOne K (.ref C) (.ref C)=some true:=by
  unfold PySem.W.kitOne
  rw[if_pos (beq_iff_eq.mpr rfl)]
theorem Znh{K:PySem.W.Frag}{C:Addr}{T:String}{b:Bool}(h1:PySem.W.kitMeta T=true)(hm:PySem.W.mroIn K C (.type T)=some b):PySem.W.kitOne K (.ref C) (.type T)=some b:=by
  unfold PySem.W.kitOne PySem.W.kitCls
  rw[if_neg (λz=>nomatch (beq_iff_eq.mp z:Value.ref C=Value.type T))]
  show (if PySem.W.kitMeta T=true then PySem.W.subIn K (.ref C) (.type T) else none)=some b
  rw[if_pos h1]
  exact hm
theorem Zpd(K:PySem.W.Frag){C:Addr}(hm:PySem.W.mroIn K C (.type "ValueError")=some true):PySem.W.kitOne K (.ref C) (.type "ValueError")=some true:=Znh (by decide +kernel) hm
end L2
namespace L2
open PySem PySem.Spec PyProof.Rows
structure FunD (K:PySem.W.Frag) (x qual:Str) (st:Stmt) (f:Addr) (fd:FuncData) (T:Addr) (items:Array Value):Prop where
  ex:∃(oc:Value) (od:Option Addr) (kV doc pm:Value) (an:Option Addr) (cdv ct:Value) (osl:Array (Option Value)),
    fd=PySem.W.fnOf x qual (ZbS st) (Zbi st) (Zag st) (.ref T) kV doc pm an cdv ct/\K.lookup f=some ⟨oc,od,.func fd,osl⟩/\PySem.W.codeIn K cdv qual=true
  tp:∃(tc:Value) (td:Option Addr) (n:Nat) (tsl:Array (Option Value)),K.lookup T=some ⟨tc,td,.seq items n,tsl⟩
  kp:PySem.W.keepIn K (.ref f)=true
section
variable{P:Program}{w:World}{K:PySem.W.Frag}{mg:Str->Option Value}{base:Heap}{x qual m:Str}{st:Stmt}{f C T:Addr}{fd:FuncData}{items:Array Value}{N ps:List Str}{k:Nat}{sp:Sp}{ds:List Value}{dvs:List V}
theorem FunD.okx(F:FunD K x qual st f fd T items)(S:FnScope N ps (Zag st))(len:∀vs H Q E,sp vs H Q E->vs.length=ps.length)
    (hbody:∀(cdv:Value) (A:Around) (outer:List Env) (s:Shared) (H:Hp) (vs:List V) (Q:VK) (E:XK),Room k (A.deeper (envOfC qual (Zag st) s.heap.objs.size f cdv))->sp vs H Q E →
      ∃t,PSs (cxX P w K mg base N qual (Zag st) f cdv A outer s H E) (Zbi st) t/\t { nx:=λ_ H'=>Q .non H',rt:=Q } (start N vs) H):FnOk P w K mg base (CXx P w) (k+1) f fd ps sp:=by
  obtain ⟨oc,od,kV,doc,pm,an,cdv,ct,osl,rfl,lk,hcd⟩:=F.ex
  exact Zm1 lk hcd S len λA outer s H vs Q E hr hsp=>hbody cdv A outer s H vs Q E hr hsp
theorem FunD.binds(F:FunD K x qual st f fd T items)(h:∀ (kV doc pm:Value) (an:Option Addr) (cdv ct:Value) (us:List Value),(us ++ ds).length = ps.length →
      ∃g:Option (Array Value)->Sem (List (Str×Value)),bindArgs (PySem.W.fnOf x qual (ZbS st) (Zbi st) (Zag st) (.ref T) kV doc pm an cdv ct) ⟨us,[]⟩=seqItems? (.ref T) >>= g/\g (some items)=pure (ps.zip (us++ds))):Binds K fd ps ds:=by
  obtain ⟨oc,od,kV,doc,pm,an,cdv,ct,osl,rfl,lk,hcd⟩:=F.ex
  obtain ⟨tc,td,n,tsl,lt⟩:=F.tp
  intro s us KX hl
  obtain ⟨g,h1,h2⟩:=h kV doc pm an cdv ct us hl
  exact .of_defaults rfl (KX _ _ lt) rfl h1 h2
structure HereD (K:PySem.W.Frag) (C:Addr) (m qual:Str) (st:Stmt) (items:Array Value):Prop where
  ex:∃(f:Addr) (fd:FuncData) (T:Addr),FunD K m qual st f fd T items/\Meth K C m f
theorem HereD.hasM(h:HereD K C m qual st items)(hv:Vals dvs ds)(b:∀f fd T,FunD K m qual st f fd T items->Binds K fd ps ds)(ok:∀f fd T,FunD K m qual st f fd T items->FnOk P w K mg base CX0 k f fd ps sp):HasM P w K mg base C m k ps dvs sp :=
  let ⟨f,fd,T,F,M⟩:=h.ex
  ⟨f,fd,ds,ok f fd T F,M,b f fd T F,hv⟩
theorem HereD.hasMX(h:HereD K C m qual st items)(hv:Vals dvs ds)(b:∀f fd T,FunD K m qual st f fd T items->Binds K fd ps ds)(ok:∀f fd T,FunD K m qual st f fd T items->FnOk P w K mg base (CXx P w) k f fd ps sp):HasMX P w K mg base C m k ps dvs sp :=
  let ⟨f,fd,T,F,M⟩:=h.ex
  ⟨f,fd,ds,ok f fd T F,M,b f fd T F,hv⟩
theorem hereD_mk{oc:Value}{od an:Option Addr}{osl:Array (Option Value)}{kV doc pm cdv ct tc:Value}{td:Option Addr}{n:Nat}{tsl:Array (Option Value)}(a:PySem.W.findIn K (.ref C) m=some (some (.ref f)))(i:PySem.W.isFn K (.ref f)=true)
    (l:K.lookup f=some ⟨oc,od,.func (PySem.W.fnOf m qual (ZbS st) (Zbi st) (Zag st) (.ref T) kV doc pm an cdv ct),osl⟩) (lt:K.lookup T=some ⟨tc,td,.seq items n,tsl⟩)
    (c:PySem.W.codeIn K cdv qual=true) (k:PySem.W.keepIn K (.ref f)=true):HereD K C m qual st items:=⟨f,_,T,⟨⟨oc,od,kV,doc,pm,an,cdv,ct,osl,rfl,l,c⟩,⟨tc,td,n,tsl,lt⟩,k⟩,a,i,k⟩
end
theorem Zlp{us:List Value}(h:us.length=1):∃a,us=[a]:=match us,h with | [a],_=>⟨a,rfl⟩
theorem ZdM{us:List Value}(h:us.length=2):∃a b,us=[a,b]:=match us,h with | [a,b],_=>⟨a,b,rfl⟩
theorem Zdq{us:List Value}(h:us.length=3):∃a b c,us=[a,b,c]:=match us,h with | [a,b,c],_=>⟨a,b,c,rfl⟩
theorem Zpe{us:List Value}(h:us.length=4):∃a b c d,us=[a,b,c,d]:=match us,h with | [a,b,c,d],_=>⟨a,b,c,d,rfl⟩
end L2
namespace L2
open PySem PySem.Spec PyProof.Rows
section
variable{X:Cx}{pins:List (Addr×Obj)}{σ:St}{H:Hp}{s:Shared}{h':Heap}{fp:List Addr}{t':Nat}
theorem Inv.multi(I:Inv X pins σ H s)(hf:∀b∈fp,Zip X pins H b)(k:∀c o,c∉fp->s.heap.get? c=some o->h'.get? c=some o):Inv X pins σ H { s with heap:=h',toks:=t' }:=by
  refine I.call (ch:=fp) ⟨λb o q n hb hx=>k b o hx q,λb o q n hb hx=>⟨o.slots,k b o hx q⟩,λb o q n hx=>n,λb o q hx=>⟨o,k b o hx q⟩,λ_ _ q=>q,λ_ _ _ q=>q,λb ps q=>⟨#[],by rw[q]; simp⟩⟩ (λb u q=>?_) I.bare λb hb=>?_
  · refine (I.hok b u q).stay (λc v hc z=>k c v (λm=>?_) z) (λ_ z=>z) λ_ _ z=>z
    rcases hc with rfl | hc
    · rw[(hf c m).1] at q; cases q
    · rw[(hf c m).1] at hc; cases hc
  · obtain ⟨_,a,_,b,c,d⟩:=hf b hb
    exact ⟨b,a,c,d⟩
theorem Inv.multiT{T:Addr}{xs:List V}{its:List Value}(I:Inv X pins σ H s)(hf:∀b∈fp,Zip X pins H b)(k:∀c o,c∉fp->s.heap.get? c=some o->h'.get? c=some o)(hT:s.heap.objs.size<=T)(ht:IsTup h' T its.toArray)(r:Vals xs its)(hz:xs.length<=sizeLine) :
    Inv X pins σ (upd H T (.tup xs)) { s with heap:=h',toks:=t' }:=by
  have nT:=I.hok.fresh hT
  have nx:∀b u,H b=some u->b≠T:=λb u q z=>by subst z; rw[nT] at q; cases q
  refine I.call (ch:=fp) ⟨λb o q n hb hx=>k b o hx q,λb o q n hb hx=>⟨o.slots,k b o hx q⟩,λb o q n hx=>?_,λb o q hx=>⟨o,k b o hx q⟩,λb _ q=>by rw[Zas (nx b _ q)]; exact q,λb _ _ q=>by rw[Zas (nx b _ q)]; exact q,λb ps q=>⟨#[],by rw[Zas (nx b _ q),q]; simp⟩⟩ (λb u q=>?_) I.bare λb hb=>?_
  · rw[Zas (Qb (Q5 (Heap.lt_size q) hT))]; exact n
  · by_cases hb:b=T
    · subst hb
      rw[Zaf] at q
      cases q
      exact ⟨hz,its,r,ht⟩
    · rw[Zas hb] at q
      refine (I.hok b u q).stay (λc v hc z=>k c v (λm=>?_) z) (λc z=>by rw[Zas (nx c _ z)]; exact z) λc _ z=>by rw[Zas (nx c _ z)]; exact z
      rcases hc with rfl | hc
      · rw[(hf c m).1] at q; cases q
      · rw[(hf c m).1] at hc; cases hc
  · obtain ⟨_,a,_,b,c,d⟩:=hf b hb
    exact ⟨b,a,c,d⟩
end
def Itz(K:PySem.W.Frag)(a b:Addr):It :=
  ⟨λi H=>∃xs ys x y,SqL K H a xs/\SqL K H b ys/\xs[i]?=some x/\ys[i]?=some y,
   λi H v H'=>∃T,H T=none/\v = .ref T/\∃x y,(∀xs,SqL K H a xs->xs[i]?=some x)/\(∀ys,SqL K H b ys->ys[i]?=some y)/\H'=upd H T (.tup [x,y]),
   λi H=>∃xs ys,SqL K H a xs/\SqL K H b ys/\(xs.length<=i\/ys.length<=i)⟩
theorem ZlM{P:Program}{w:World}{K:PySem.W.Frag}{elts:List Expr}{k0}{pos:Pos}{a b z TI TO i1 i2:Addr}(D:ZipApart z TI TO i1 i2 a b) :
    Turn P w K (.Tuple elts k0 pos) (Itz K a b) [z,TI,TO,i1,i2] z (λi h=>IsZip h z TI TO .none/\IsPair h TI (.ref i1) (.ref i2)/\(∃p q,IsPair h TO p q)/\h.IsListIter i1 a i/\h.IsListIter i2 b i) where
  mem:=by simp
  obj:=λi h ⟨hz,hTI,⟨p,q,hTO⟩,⟨o1,e1,_,d1⟩,⟨o2,e2,_,d2⟩⟩ c hc=>by
    simp only[Q8,W4,or_false] at hc
    rcases hc with rfl | rfl | rfl | rfl | rfl
    · exact ⟨_,hz,λv e=>nomatch (show Data.fields _=Data.cell v from e)⟩
    · exact ⟨_,hTI,λv e=>nomatch (show Data.seq _ _=Data.cell v from e)⟩
    · exact ⟨_,hTO,λv e=>nomatch (show Data.seq _ _=Data.cell v from e)⟩
    · exact ⟨o1,e1,λv e=>by rw[d1] at e; cases e⟩
    · exact ⟨o2,e2,λv e=>by rw[d2] at e; cases e⟩
  keep:=λi h h' ⟨hz,hTI,⟨p,q,hTO⟩,h1,h2⟩ k =>
    ⟨k z (by simp) _ hz,k TI (by simp) _ hTI,⟨p,q,k TO (by simp) _ hTO⟩,h1.at λo e=>k i1 (by simp) o e,h2.at λo e=>k i2 (by simp) o e⟩
  item:=by
    intro X hP hw hK hc i pins s σ H E I hf ⟨hz,hTI,⟨p,q,hTO⟩,h1,h2⟩ hg
    subst hP hw hK
    obtain ⟨xs,ys,x,y,hq1,hq2,hx,hy⟩:=hg
    obtain ⟨its,rv,pl,_⟩:=I.list hq1
    obtain ⟨jts,rw',pl2,_⟩:=I.list hq2
    obtain ⟨u,hu,ru⟩:=rv.get hx
    obtain ⟨v,hv,rw2⟩:=rw'.get hy
    refine wpAny_pyNext_zip_item D hz hTI hTO h1 h2 pl.isList pl2.isList (x:=u) (y:=v) (by simpa using hu) (by simpa using hv) λh' a1 a2 a3 a4 a5 a6 a7=>?_
    refine ⟨_,rfl,wpAny_letOwnedTupleGo_zip (s:={ s with heap:=h' }) a1 λh2' b1 b2=>?_⟩
    have kz:∀c o,c∉[z,TI,TO,i1,i2]->s.heap.get? c=some o->h2'.get? c=some o:=λc o hc e=>by
      simp only[Q8,W4,or_false,not_or] at hc
      obtain ⟨n1,n2,n3,n4,n5⟩:=hc
      exact b2.extBut _ _ n1 (a7 c o n1 n3 n4 n5 e)
    have nTz:s.heap.objs.size≠z:=Uc (Heap.lt_size hz)
    have fresh:=I.hok.fresh (Q4 s.heap.objs.size)
    have I2:Inv X pins σ (upd H s.heap.objs.size (.tup [x,y])) { s with heap:=h2' }:=I.multiT (t':=s.toks) (its:=[u,v]) hf kz (Q4 _) ⟨_,b2.extBut _ _ nTz a5,rfl,_,rfl⟩ (.cons ru (.cons rw2 .nil)) (by show 2<=sizeLine; decide)
    refine ⟨.ref s.heap.objs.size,_,I2,rfl,⟨_,fresh,rfl,x,y,λxs' e=>by rw[I.list_inj e hq1]; exact hx,λys' e=>by rw[I.list_inj e hq2]; exact hy,rfl⟩,⟨b1,?_,⟨u,v,?_⟩,a3.extBut b2.extBut D.i1z,a4.extBut b2.extBut D.i2z⟩,λc hc=>?_⟩
    · exact b2.extBut _ _ D.TIz (a7 _ _ D.TIz D.TITO D.TIi1 D.TIi2 hTI)
    · exact b2.extBut _ _ D.TOz a2
    · have lt:c<s.heap.objs.size:=by
        simp only[Q8,W4,or_false] at hc
        obtain ⟨_,e1,_⟩:=id h1
        obtain ⟨_,e2,_⟩:=id h2
        rcases hc with rfl | rfl | rfl | rfl | rfl
        · exact Heap.lt_size hz
        · exact Heap.lt_size hTI
        · exact Heap.lt_size hTO
        · exact Heap.lt_size e1
        · exact Heap.lt_size e2
      rw[Zas (Qb lt)]
      exact (hf c hc).1
  done:=by
    intro X hP hw hK hc i pins s σ H E I hf ⟨hz,hTI,⟨p,q,hTO⟩,h1,h2⟩ hg
    subst hP hw hK
    obtain ⟨xs,ys,hq1,hq2,hx⟩:=hg
    obtain ⟨its,rv,pl,_⟩:=I.list hq1
    obtain ⟨jts,rw',pl2,_⟩:=I.list hq2
    have l1:=rv.length
    have l2:=rw'.length
    refine wpAny_pyNext_zip_end (I.ok.hd hc) D hz hTI hTO h1 h2 pl.isList pl2.isList ?_ λh' k=>⟨rfl,I.multi (t':=s.toks) hf λc o hc e=>?_⟩
    · rcases hx with hx | hx
      · left; simp; omega
      · right; simp; omega
    · simp only[Q8,W4,or_false,not_or] at hc
      obtain ⟨n1,n2,n3,n4,n5⟩:=hc
      exact k c o n1 n3 n4 n5 e
  self:=λ_ _ _ _ _ ⟨hz,_⟩ h=>wpAny_pyIter_zip hz h
section
variable{X:Cx}
def Zp5(K:PySem.W.Frag)(ta:TA):TI:=λσ H R=>ta σ H λvs H1=>∃a b,vs=[.ref a,.ref b]/\(∃xs,SqL K H1 a xs)/\(∃ys,SqL K H1 b ys)/\R (Itz K a b) H1
theorem Zha{e1 e2:Expr}{elts:List Expr}{k0}{tpos:Pos}{ta:TA}{p pos:Pos}(hg:Gl X "zip") (hm:X.mg "zip" = none) (ha:PA X [e1,e2] ta) (hs:starEach [e1,e2] X.env=[(false,eval e1 X.env),(false,eval e2 X.env)]:=by rfl) (hs2:starEach [e2] X.env=[(false,eval e2 X.env)]:=by rfl) :
    PI X (.Tuple elts k0 tpos) (.Call (.Name "zip" p) [e1,e2] [] pos) (Zp5 X.K ta):=by
  intro pins s σ H R I h
  refine wpAny_Call_Name_kw (ZeQ I hg hm PyProof.Rows.Boot.«zip» (PyProof.Rows.callWith_type1 (thn (ha pos pins s σ H _ I h) λus s1 ⟨vs,H1,I1,r1,q1⟩=>?_) (by rw[hs,hs2]) (by rw[hs2]; rfl)))
  obtain ⟨a,b,e,⟨xs,hq1⟩,⟨ys,hq2⟩,q⟩:=q1
  subst e
  obtain ⟨u,v,rfl,ru,rv⟩:=Zi2 r1
  cases (show u=Value.ref a from ru)
  cases (show v=Value.ref b from rv)
  obtain ⟨its,_,pl,_⟩:=I1.list hq1
  obtain ⟨jts,_,pl2,_⟩:=I1.list hq2
  have la:a<s1.heap.objs.size:=by obtain ⟨o,e,_⟩:=pl.isList; exact Heap.lt_size e
  have lb:b<s1.heap.objs.size:=by obtain ⟨o,e,_⟩:=pl2.isList; exact Heap.lt_size e
  refine call_zip_2 pl.isList pl2.isList λh' hz hTI hTO h1 h2 hsz k=>?_
  refine wpAny_pyIter_zip (s:={ s1 with heap:=h' }) hz ?_
  refine ⟨_,[s1.heap.objs.size+4,s1.heap.objs.size+2,s1.heap.objs.size+3,s1.heap.objs.size,s1.heap.objs.size+1],_,_,H1,rfl,I1.kept (t':=s1.toks) k,ZlM (zipApart_new la lb),⟨hz,hTI,⟨_,_,hTO⟩,h1,h2⟩,λc hc=>?_,q⟩
  have hc':s1.heap.objs.size<=c:=by
    simp only[Q8,W4,or_false] at hc
    rcases hc with rfl | rfl | rfl | rfl | rfl <;> omega
  exact I1.fpOk hc' (I1.hok.fresh hc')
end
theorem Zj9{K:PySem.W.Frag}{a b:Addr}{xs ys:List V}{g:TG}{tb:TS}{D:Ends}{σ:St}{H:Hp}(Pv:Nat->St->Hp->Prop)(h0:Pv 0 σ H)(hl:∀i σ H,Pv i σ H->SqL K H a xs/\SqL K H b ys)
    (hs:∀i x y T σ H,xs[i]?=some x->ys[i]?=some y->H T=none->Pv i σ H->g (.ref T) σ (upd H T (.tup [x,y])) λσ2 H2=>tb { D with nx:=Pv (i+1),ct:=Pv (i+1),bk:=D.nx } σ2 H2) (hd:∀i σ H,i=min xs.length ys.length->Pv i σ H->D.nx σ H) :
    ∃W:Nat->Nat->St->Hp->Prop,(∃m,W 0 m σ H)/\∀i m σ H,W i m σ H →
      ((Itz K a b).stop i H/\D.nx σ H)\/((Itz K a b).go i H/\∃N:St->Hp->Prop,(∀σ' H',N σ' H'->∃m',m'<m/\W (i+1) m' σ' H')/\∀x H',(Itz K a b).yld i H x H'->g x σ H' λσ2 H2=>tb { D with nx:=N,ct:=N,bk:=D.nx } σ2 H2):=by
  refine ⟨λi m σ H=>m=min xs.length ys.length-i/\i<=min xs.length ys.length/\Pv i σ H,⟨_,rfl,Qk _,h0⟩,?_⟩
  rintro i m σ H ⟨rfl,hi,p⟩
  obtain ⟨q1,q2⟩:=hl i σ H p
  by_cases hlt:i<min xs.length ys.length
  · have l1:i<xs.length:=by omega
    have l2:i<ys.length:=by omega
    refine .inr ⟨⟨xs,ys,xs[i],ys[i],q1,q2,by simp[l1],by simp[l2]⟩,Pv (i+1),λσ' H' p'=>⟨min xs.length ys.length-(i+1),⋯,rfl,hlt,p'⟩,λx H' y=>?_⟩
    obtain ⟨T,nT,rfl,u,v,e1,e2,rfl⟩:=y
    exact hs i u v T σ H (e1 xs q1) (e2 ys q2) nT p
  · exact .inl ⟨⟨xs,ys,q1,q2,⋯⟩,hd i σ H ⋯ p⟩
section
variable{caps:List (Nat×Str)}{te:TE}
theorem Zpf{x y:V}{cs:List (Option V)}:∀(i:Nat) v,((none:Option V)::none::cs)[i]?=some (some v)->((some x)::(some y)::cs)[i]?=some (some v)
  | 0,v,h=>by simp at h
  | 1,v,h=>by simp at h
  | i+2,v,h=>by simpa using h
end
end L2
namespace L2
open PySem PySem.Spec PyProof.Rows
theorem Zdr(n:Nat):(List.range n).all (λ_=>true)=true:=by simp
def Bits(n:Nat)(i:Int):Prop:=Builtin.Int.intBits i<=n
theorem ZhJ(i:Int):(PySem.W.WData.int i).weight=Builtin.Int.intBits i:=by
  simp only[PySem.W.WData.weight,Builtin.Int.intBits]
theorem ZfV:∀(ns:List Int) (n:Nat),PySem.W.WData.weightAll (ns.map PySem.W.WData.int)<=n->∀i∈ns,Bits n i
  | [],_,_,_,h=>nomatch h
  | j::ns,n,hw,i,h=>by
    simp only[Ww,PySem.W.WData.weightAll] at hw
    rcases Q8.mp h with rfl | h
    · show Builtin.Int.intBits i<=n
      rw[<-ZhJ]; omega
    · exact ZfV ns n ⋯ i h
theorem Zhb{l:PySem.W.OpenLaw}{n:Nat}{q:Program}{loose:List Str}{XP:(Str->Option Value)->Heap->Prop}{YP:World->Heap->Prop}{d:DefRec}
    (hn:l.most=some n) (hdf:d.params.defaults=[])
    (call:∀(w:World) (s₀ s₁:Shared) (mg mb:Str->Option Value) (fa:Addr) (a:Addr) (vs:List Value) (ns:List Int),
      PySem.W.Ground q loose [] XP w s₀ mg mb s₁.heap->YP w s₁.heap->mg d.name=some (.ref fa) →
      s₁.heap.get? a=some { cls:=.type "list", data:=.seq vs.toArray }->IntsAre vs ns->ns.length<=n->(∀i∈ns,Bits 1048576 i)->s₁.gens=#[] →
      codeAny (model l.prog w) callerA (.call (.ref fa) ⟨[.ref a],[]⟩) (λr s'=>r = .ok (.ret (.bool true))/\OldK s₁.heap s'.heap/\s'.os=s₁.os/\AllBare s'.gens) s₁) :
    PySem.W.WalkO q loose XP YP l.row.toRowW d [] (λf vs=>PySem.call f vs):=by
  refine λw s₀ s₁ mg mb G Y fa o pm cd doc dV kV ho hd hcd hD hmg hg args vals as hpre hlay hrd hwl hlo=>?_
  have hb:∀(a:Addr) (vs:List Value) (ns:List Int),vals=[Value.ref a]->args=[PySem.W.WData.list (ns.map PySem.W.WData.int)]->∀i∈ns,Bits 1048576 i:=by
    rintro a vs ns-rfl
    refine ZfV ns _ ?_
    have h1:(PySem.W.WData.list (ns.map PySem.W.WData.int)).layable=true:=(PySem.W.layW_cons hlay).1
    unfold PySem.W.WData.layable at h1
    simp only[Uj,decide_eq_true_eq] at h1
    have:=h1.2
    simp only[PySem.W.WData.weight] at this
    exact this
  obtain rfl:dV = .none:=PySem.W.Dflts.none hD hdf
  obtain rfl:kV = .none:=PySem.W.Dflts.noKw hD
  obtain ⟨a,vs,ns,rfl,rfl,hobj,hints,hlen⟩:=Att.script_of hn hpre hwl
  refine PySem.W.enter_call (codeAny_mono (call w s₀ s₁ mg mb fa a vs ns G Y hmg hobj hints hlen (hb a vs ns rfl rfl) hg) λr s' hq=>?_)
  obtain ⟨rfl,h2,h3,h4⟩:=hq
  exact ⟨.inl ⟨.bool true,.bool true,[],rfl,λ_=>rfl,.bool true,Att.post_true l _,λ_=>⟨List.Pairwise.nil,λ_ hm=>(nomatch hm)⟩⟩,h2,h3,h4⟩
theorem walk_ofB{l:PySem.W.OpenLaw}{n k:Nat}{q:Program}{loose:List Str}{XP:(Str->Option Value)->Heap->Prop}{YP:World->Heap->Prop}{d:DefRec}{K:Params->PySem.W.Frag}{CX:World->CXT}{sp:World->Sp}{x:Str}
    (hn:l.most=some n) (hn2:n<=sizeLine) (hdf:d.params.defaults=[]) (hr:Room k callerA)
    (hY:∀(w:World) (h:Heap),YP w h->(K w.params).In h)
    (F:∀(w:World) (mg:Str->Option Value) (fa:Addr) (h:Heap),(K w.params).In h->h.Ns mainGlobals mg->mg d.name=some (.ref fa) →
      ∃fd:FuncData,(∀(s:Shared) (u:Value),BindsTo s fd ⟨[u],[]⟩ [(x,u)]) ∧
        ∀base:Heap,(K w.params).In base->base.Ns mainGlobals mg->FnOk l.prog w (K w.params) mg base (CX w) k fa fd [x] (sp w))
    (hsp:∀(w:World) (H:Hp) (a:Addr) (ns:List Int),ns.length<=n->(∀i∈ns,Bits 1048576 i)->ZoT H->SqL (K w.params) H a (ns.map V.int)->sp w [.ref a] H (λv _=>v = .bl true) λ_ _ _=>False)
    (hCX:∀(w:World) (H:Hp) (s:Shared) (e:Value) (s':Shared),CX w [] H s (λ_ _ _=>False) e s'->False) :
    PySem.W.WalkO q loose XP YP l.row.toRowW d [] (λf vs=>PySem.call f vs):=by
  refine Zhb hn hdf λw s₀ s₁ mg mb fa a vs ns G Y hmg hobj hints hlen hbits hg=>?_
  have KX:=hY w _ Y
  obtain ⟨fd,hb,hF⟩:=F w mg fa _ KX G.T.g hmg
  exact Ziv KX G.T.g G.T.b G.T.builtins G.T.nolimit hg hobj hints (Q0 hlen hn2) hr hF hb (λH hO hS=>hsp w H a ns hlen hbits hO hS) λH e s'=>hCX w H s₁ e s'
theorem Bits.lt{n:Nat}{i:Int}(h:Bits n i):i.natAbs<2^n:=by
  unfold Bits Builtin.Int.intBits at h
  by_cases h0:i=0
  · subst h0; exact Ug (by simp)
  · have:i.natAbs.log2+1<=n:=by simpa [h0] using h
    exact (Nat.log2_lt ⋯).mp ⋯
theorem Bits.of{n:Nat}{i:Int}(h:i.natAbs<2^n):Bits n i:=Zdw h
theorem Bits.cell{n:Nat}{c k:Int}(h:Bits n c)(h0:0<=k)(h1:k<256):Bits (n+17) (c*(k+2)+k*k):=by
  refine Bits.of ?_
  have hc:=h.lt
  have e1:(c*(k+2)).natAbs<=c.natAbs*258:=by
    rw[Qq]
    exact Ui _ ⋯
  have e2:(k*k).natAbs<=256*256:=by
    rw[Qq]
    exact Qz ⋯ ⋯
  have e3:2^(n+17)=2^n*131072:=by rw[Uk]
  have e4:1<=2^n:=Ug (by simp)
  rw[e3]
  generalize 2^n=P at *
  omega
theorem Bits.mono{m n:Nat}{i:Int}(h:Bits m i)(hm:m<=n):Bits n i:=Q0 h hm
theorem Bits.mul{i j:Int}(h:Bits 2097152 i)(h':Bits 2097152 j):IntMulOk i j:=by
  have h1:Builtin.Int.intBits i<=2097152:=h
  have h2:Builtin.Int.intBits j<=2097152:=h'
  have h3:Builtin.Int.intTooBig (Builtin.Int.intBits i+Builtin.Int.intBits j)=false:=by
    unfold Builtin.Int.intTooBig
    rw[bitsLine_eq]
    exact decide_eq_false ⋯
  unfold IntMulOk
  rw[h3]
  simp
end L2
namespace L2
open PySem PySem.Spec PyProof.Rows
section
variable{X:Cx}
theorem ZlN(K:PySem.W.Frag)(h:X.K=K):IxR X (Zpa K):=by subst h; exact Zav
theorem Zf6(K:PySem.W.Frag)(h:X.K=K):CallR X (.builtin "len") (λxs H Q=>∃p ys,xs=[.ref p]/\(SqL K H p ys\/SqT K H p ys)/\Q (.int ys.length) H):=by subst h; exact Zai
theorem ZbL(K:PySem.W.Frag)(h:X.K=K):CallR X (.type "list") (λxs H Q=>∃p ys,xs=[.ref p]/\(SqL K H p ys\/SqT K H p ys)/\∀l,H l=none->Q (.ref l) (upd H l (.lst ys))):=by subst h; exact Zeu
structure CxIs (X:Cx) (P:Program) (w:World) (K:PySem.W.Frag) (mg:Str->Option Value) (base:Heap):Prop where
  p:X.prog=P
  w:X.w=w
  k:X.K=K
  m:X.mg=mg
  b:X.base=base
variable{o e:Expr}{es:List Expr}{m:Str}{apos pos:Pos}{ta:TE}{t:TA}{k:Nat}{E:St->XK}
theorem Zka{pl:Sem Bool}{P:Program}{w:World}{K:PySem.W.Frag}{mg:Str->Option Value}{base:Heap}(hX:CxIs X P w K mg base)(he:PE X o ta)(hx:Zg9 X E)(hr:Room k X.A)(ha:PA X (e::es) t)
    (hst:starEach (e::es) X.env=(false,eval e X.env)::starEach es X.env:=by rfl) (hpl:(backTo pos (starEach es X.env)).any (·.1)=false:=by rfl)
    (ht:eval (.Call (.Attribute o m apos) (e::es) [] pos) X.env=(do
      let ov ← eval o X.env
      standAt apos.atName
      let (f,first) ← holding [ov] (getMethod ov m pl)
      callWith pos f first (backTo pos (starEach (e::es) X.env)) (backToKw pos (keywordEach [] X.env))):=by rfl) :
    PE X (.Call (.Attribute o m apos) (e::es) [] pos) (ZmA P w K mg base m k E ta t):=by
  obtain ⟨rfl,rfl,rfl,rfl,rfl⟩:=hX
  exact Zbl he hx hr ha hst hpl ht
theorem Ze5{pl:Sem Bool}{P:Program}{w:World}{K:PySem.W.Frag}{mg:Str->Option Value}{base:Heap}(hX:CxIs X P w K mg base)(he:PE X o ta)(hr:Room k X.A)(ha:PA X (e::es) t)
    (hst:starEach (e::es) X.env=(false,eval e X.env)::starEach es X.env:=by rfl) (hpl:(backTo pos (starEach es X.env)).any (·.1)=false:=by rfl)
    (ht:eval (.Call (.Attribute o m apos) (e::es) [] pos) X.env=(do
      let ov ← eval o X.env
      standAt apos.atName
      let (f,first) ← holding [ov] (getMethod ov m pl)
      callWith pos f first (backTo pos (starEach (e::es) X.env)) (backToKw pos (keywordEach [] X.env))):=by rfl) :
    PE X (.Call (.Attribute o m apos) (e::es) [] pos) (Zmz P w K mg base m k ta t):=by
  obtain ⟨rfl,rfl,rfl,rfl,rfl⟩:=hX
  exact Zbz he hr ha hst hpl ht
end
end L2
namespace L2
open PySem PySem.Spec PyProof.Rows
theorem ZhK{X:Cx}{pos:Pos}(K:PySem.W.Frag)(h:X.K=K){es:List Expr}{k:Nat}{t:TGs}{n:Nat}(hc:X.calm=true)(h1:PGs X es t)
    (hn:(assignEach es X.env).length=n:=by rfl) (hst:(assignEach es X.env).findIdx? (·.1)=none:=by rfl):PG X (.Tuple es k pos) (Zo1 K n t):=by subst h; exact ZjG hc h1 hn hst
theorem Ze6{caps:List (Nat×Str)}{te:TE}{K:PySem.W.Frag}{a b:Addr}{xs ys:List V}{σ:St}{H:Hp}{QL:List V->Hp->Prop}(Pv:Nat->List V->Hp->Prop)(hz:xs.length<=1000)(h0:Pv 0 [] H)(hl:∀i zs H,Pv i zs H->SqL K H a xs/\SqL K H b ys)
    (hs:∀i x y T zs H,xs[i]?=some x->ys[i]?=some y->zs.length=i->H T=none->Pv i zs H->te (some x::some y::caps.map λp=>(σ[p.1]?).join) (upd H T (.tup [x,y])) λv H'=>Pv (i+1) (zs++[v]) H')
    (hd:∀zs H,zs.length=min xs.length ys.length->Pv (min xs.length ys.length) zs H->QL zs H) :
    ZfS 2 caps (Zo1 K 2 (ZmU (ZfZ 0) (ZmU (ZfZ 1) ZpB))) te σ (Itz K a b) H QL:=by
  have hz':xs.length<sizeLine:=ZcN hz
  refine ⟨λi m zs H=>m=min xs.length ys.length-i/\i<=min xs.length ys.length/\zs.length=i/\Pv i zs H,⟨_,rfl,Qk _,rfl,h0⟩,?_⟩
  rintro i m zs H' ⟨rfl,hi,hy,p⟩
  obtain ⟨q1,q2⟩:=hl i zs H' p
  refine ⟨⋯,?_⟩
  by_cases hlt:i<min xs.length ys.length
  · have l1:i<xs.length:=by omega
    have l2:i<ys.length:=by omega
    refine .inr ⟨⟨xs,ys,xs[i],ys[i],q1,q2,by simp[l1],by simp[l2]⟩,⋯,λv H4=>Pv (i+1) (zs++[v]) H4,λv H4 p'=>⟨min xs.length ys.length-(i+1),⋯,rfl,hlt,by rw[Qd,hy]; rfl,p'⟩,λx H2 y=>?_⟩
    obtain ⟨T,nT,rfl,u,v,e1,e2,rfl⟩:=y
    exact ⟨T,[u,v],rfl,SqT.of Zaf,rfl,u,_,rfl,v,_,rfl,rfl,Zpf,hs i u v T zs H' (e1 xs q1) (e2 ys q2) hy nT p⟩
  · have e:i=min xs.length ys.length:=by omega
    subst e
    exact .inl ⟨⟨xs,ys,q1,q2,⋯⟩,hd zs H' hy p⟩
end L2
namespace L2
open PySem PySem.Spec PyProof.Rows
theorem Zni:10^1000<2^4000:=by decide +kernel
theorem Zpg{i j:Int}(h:i.natAbs<=10^1000)(h':j.natAbs<=10^1000):IntMulOk i j :=
  .of_bits (Q0 (Zdw (n:=4000) (Qc h Zni)) ∅) (Q0 (Zdw (n:=4000) (Qc h' Zni)) ∅)
theorem ZlO{j:Int}(h:j.natAbs<=10^1000):j.natAbs.log2<9000:=by
  rcases Uf j.natAbs with z | z
  · rw[z]; decide
  · exact U4 ((Nat.log2_lt (Uc z)).mpr (Qc h Zni)) ∅
section
variable{X:Cx}
theorem ZeG:OpR X (binaryOp .FloorDiv) (rI (λ_ j=>j≠0/\j.natAbs<=10^1000) λi j => .int (i.fdiv j)):=opI λ_ _ _ _ _ _ _ hc q=>floordiv_int hc.1 q (.inl (PyProof.noPylong_of_log2 (ZlO hc.2)))
theorem Zez:∀ {ns:List Int} {us:List Value},Vals (ns.map V.int) us->IntsAre us ns
  | [],_,.nil => .nil
  | _::_,_,.cons r t=>by obtain ⟨k,rfl⟩:=r; exact .cons _ _ (Zez t)
theorem ZlP(hc:X.calm=true):CallR X (.builtin "sum") (λxs H Q=>∃(p:Addr) (ns:List Int),xs=[.ref p]/\SqL X.K H p (ns.map V.int)/\Q (.int ns.sum) H):=by
  intro pins s σ H xs us Q I r h
  obtain ⟨p,ns,rfl,hq,q⟩:=h
  obtain ⟨u,rfl,rx⟩:=Zi1 r
  cases rx
  obtain ⟨its,r',pl,hz⟩:=I.list hq
  have hi:=Zez r'
  obtain ⟨xs,e⟩:=hi.allInts.items
  have hs:(numsOf its).sum=ns.sum:=by rw[hi.numsOf]
  have e2:its=(intItems xs).toList:=by rw[<-e]
  rw[e2,nums_intItems] at hs
  refine sum_intListG (xs:=xs) (I.ok.hd hc) (by rw[<-e]; exact pl.isList) λh' tk t' hk=>?_
  rw[preSum_eq,Ws (by simp)]
  rw[hs]
  exact ⟨.int ns.sum,H,I.kept hk,⟨t',rfl⟩,q⟩
end
end L2
namespace L2
open PySem PySem.Spec PyProof.Rows
theorem Zf7{scope:Scope}{env:Env}{x:Str}(hx:(relabel scope env).names.lookup x=some .cell\/(relabel scope env).names.lookup x=some .free):(x,NameKind.free)∈scope.names\/(x,NameKind.cell)∈scope.names:=by
  unfold relabel at hx
  have hx:(scope.names.map λ(n,k)=>if (k==NameKind.free&&env.scope.kind == .function&&env.kindOf n==some .cell) then (n,NameKind.cell) else (n,k)).lookup x=some .cell\/(scope.names.map λ(n,k)=>if (k==NameKind.free&&env.scope.kind == .function&&env.kindOf n==some .cell) then (n,NameKind.cell) else (n,k)).lookup x=some .free:=hx
  generalize scope.names=ns at hx
  induction ns with
  | nil=>simp at hx
  | cons p r ih =>
    obtain ⟨n,k⟩:=p
    rw[Ww] at hx
    by_cases hn:x=n
    · subst hn
      by_cases hk:k=NameKind.free
      · subst hk; exact .inl Qv
      · have hb:(k==NameKind.free)=false:=by simpa using hk
        simp only[hb,Bool.false_and,Bool.false_eq_true,if_false,W0,beq_self_eq_true,Option.some.injEq] at hx
        rcases hx with e | e
        · rw[e]; exact .inr Qv
        · exact absurd e hk
    · have hb:(x==n)=false:=beq_eq_false_iff_ne.mpr hn
      have hx2:List.lookup x ((if (k==NameKind.free&&env.scope.kind == .function&&env.kindOf n==some .cell)=true then (n,NameKind.cell) else (n,k))::List.map (λ(p:Str×NameKind)=>match p with | (n,k)=>if (k==NameKind.free&&env.scope.kind == .function&&env.kindOf n==some .cell)=true then (n,NameKind.cell) else (n,k)) r)=some .cell\/List.lookup x ((if (k==NameKind.free&&env.scope.kind == .function&&env.kindOf n==some .cell)=true then (n,NameKind.cell) else (n,k))::List.map (λ(p:Str×NameKind)=>match p with | (n,k)=>if (k==NameKind.free&&env.scope.kind == .function&&env.kindOf n==some .cell)=true then (n,NameKind.cell) else (n,k)) r)=some .free:=hx
      have:=ih (by split at hx2 <;> (simp only[W0,hb] at hx2; exact hx2))
      rcases this with h | h
      · exact .inl (W3 _ h)
      · exact .inr (W3 _ h)
def ZcR(X:Cx)(x0:Str)(scope:Scope)(N:List Str)(s₀:Shared)(H₀:Hp)(C:Addr)(fp:List Addr):Cx where
  prog:=X.prog
  w:=X.w
  K:=X.K
  mg:=X.mg
  base:=X.base
  A:=X.A
  N:=N
  s₀:=s₀
  H₀:=H₀
  env:=compEnvC scope ((x0,C+1)::ZgR X.env.cells scope.names []) C X.env
  outer:=X.stack
  stack:=X.stack
  ex:=fp
  fn:=λx=>x==x0
  calm:=X.calm
  pn:=[]
  xe:=λ_ _=>False
theorem ZhL{x0 x:Str}{n c:Addr}{cl:List (Str×Addr)}(h:((x0,n)::cl).lookup x=some c):(x=x0/\c=n)\/(x≠x0/\cl.lookup x=some c):=by
  by_cases hx:x=x0
  · subst hx
    simp only[W0,beq_self_eq_true,Option.some.injEq] at h
    exact .inl ⟨rfl,h.symm⟩
  · have hb:(x==x0)=false:=beq_eq_false_iff_ne.mpr hx
    simp only[W0,hb] at h
    exact .inr ⟨hx,h⟩
structure OneCell (scope:Scope) (x0:Str):Prop where
  one:∀y∈scope.names,y.2 = .cell->y.1=x0
  lk:scope.names.lookup x0=some .cell
  cf:∀n acc,cellsFrom n scope.names acc=(x0,n)::acc
  pc:∀h,pushCells h scope.names=h.push { cls:=.type "cell", data:=.cell none }
theorem Znj{prog:Program}{w:World}{A:Around}{E:Value->Shared->Prop}{s:Shared}{scope:Scope}{x0:Str}{globals:Addr}{closure:List (Str×Addr)}{qual:Str}{env:Env}{Q:Env->Shared->Prop}(O:OneCell scope x0)
    (hQ:Q { scope,locals:=s.heap.objs.size,globals,cells:=(x0,s.heap.objs.size+1)::closure,qual,func:=none,code:=env.code,frame:=env.frame,builtins:=env.builtins } { s with heap:=(s.heap.push { cls:=.type "dict", data:=.dict #[] }).push { cls:=.type "cell", data:=.cell none } }) :
    wpAny (model prog w) A (newFunctionEnv scope globals closure [] qual none .none (some env)) Q E s:=by
  simp only[newFunctionEnv,Option.isSome_some,if_true]
  refine wpAny_bind (wpAny_alloc ?_)
  refine wpAny_bind (wpAny_layCells _ (λname kind cells=>by cases hkc:kind==NameKind.cell <;> simp[hkc]) _ _ _ _ ?_)
  rw[O.cf,O.pc,Heap.size_push]
  refine wpAny_bind ?_
  rw[List.forIn_nil]
  exact wpAny_pure (wpAny_pure hQ)
section
variable{X:Cx}{tg iter elt:Expr}{scope:Scope}{pos:Pos}{wi:TI}{g:TG}{te:TE}{own:List Str}{caps:List (Nat×Str)}{x0:Str}
theorem Zja{pins:List (Addr×Obj)}{σ:St}{H:Hp}{s:Shared}{fp:List Addr}{C:Addr}{N:List Str}(I:Inv X pins σ H s)(hkind:scope.kind = .function)(O:OneCell scope x0)
    (hfree:∀y,(y,NameKind.free)∈scope.names->∃c,X.env.cells.lookup y=some c) (hC:s.heap.objs.size<=C) (hf:∀b∈fp,Zip X pins H b) (hlt:∀b∈fp,b<s.heap.objs.size):(ZcR X x0 scope N s H C fp).Ok:=by
  have sub:∀x c,(ZgR X.env.cells scope.names []).lookup x=some c->X.env.cells.lookup x=some c:=λx c e=>ZdP scope.names [] (λp hp=>(nomatch hp)) (x,c) (PySem.mem_of_lookup e)
  have clt:∀x c,X.env.cells.lookup x=some c->c<s.heap.objs.size:=λx c e=>by
    obtain ⟨v,o,ho,_⟩:=I.cell x c e
    exact Heap.lt_size ho
  refine ⟨I.ok.mod,hkind,I.ok.glob,I.ok.blt,hC,λx y c h1 h2=>?_,λx hx=>?_,λx c hx h=>?_,I.ok.hd,I.ok.frames,.inl rfl,λb hb=>⟨?_,λx c e=>?_⟩,I.bs,Q0 I.ok.bsz I.sz,λb o e hb=>?_,λb hb z=>?_,I.stack,I.stkFree⟩
  · rcases ZhL h1 with ⟨a1,a2⟩ | ⟨_,a⟩ <;> rcases ZhL h2 with ⟨b1,b2⟩ | ⟨_,b⟩
    · rw[a1,b1]
    · have:=clt y c (sub y c b); rw[a2] at this; exact absurd this (U7.mpr (Uh hC))
    · have:=clt x c (sub x c a); rw[b2] at this; exact absurd this (U7.mpr (Uh hC))
    · exact I.ok.inj x y c (sub x c a) (sub y c b)
  · by_cases h0:x=x0
    · exact ⟨C+1,by subst h0; show List.lookup x ((x,C+1)::_)=_; simp[W0]⟩
    · rcases Zf7 hx with h | h
      · obtain ⟨c,hc⟩:=ZdQ scope.names [] h (hfree x h)
        obtain ⟨d,hd⟩:=Zbj hc
        have hb:(x==x0)=false:=beq_eq_false_iff_ne.mpr h0
        exact ⟨d,by show List.lookup x ((x0,C+1)::_)=_; simp only[W0,hb]; exact hd⟩
      · exact absurd (O.one _ h rfl) h0
  · have hx':x=x0:=by simpa [ZcR] using hx
    rcases ZhL h with ⟨_,a⟩ | ⟨a,_⟩
    · show s.heap.objs.size<=c; rw[a]; exact Uh hC
    · exact absurd hx' a
  · exact Qb (Q5 (hlt b hb) hC)
  · rcases ZhL e with ⟨_,a⟩ | ⟨_,a⟩
    · rw[a]; exact λz=>by
        have h9:=hlt b hb
        rw[<-z] at h9
        exact absurd h9 (U7.mpr (Uh hC))
    · exact (hf b hb).2.2.2.2.1 x c (sub x c a)
  · rcases (hf b hb).2.2.2.1 with z | z
    · exact I.ok.noex b o e z
    · exact absurd (Q5 (Heap.lt_size e) (Q0 I.ok.bsz z)) (Qx _)
  · rcases Q8.mp (I.stkSub b z) with e | e
    · exact (hf b hb).2.1 e
    · exact (hf b hb).2.2.1 e
theorem Zjb{pins:List (Addr×Obj)}{σ:St}{H:Hp}{s:Shared}{fp:List Addr}{it:Addr}{tn:Nat->Heap->Prop}{J:It}{E:Value->Shared->Prop}{RR:Value->Addr->Result->Shared->Prop}{QL:List V->Hp->Prop}
    (I:Inv X pins σ H s) (hc:X.calm=true) (T:Turn X.prog X.w X.K tg J fp it tn) (st:tn 0 s.heap) (hf:∀b∈fp,Zip X pins H b)
    (hkind:scope.kind = .function) (O:OneCell scope x0) (hfree:∀y,(y,NameKind.free)∈scope.names->∃c,X.env.cells.lookup y=some c) (hcap:CapsOk X scope caps)
    (hg:∀s₀ H₀ C,PG (ZcR X x0 scope (own++caps.map (·.2)) s₀ H₀ C fp) tg g) (he:∀s₀ H₀ C,PE (ZcR X x0 scope (own++caps.map (·.2)) s₀ H₀ C fp) elt te)
    (hB:ZfS own.length caps g te σ J H QL)
    (fin:∀D C s' m ys H',s.heap.objs.size<=C->D≠C->s'.heap.Ns C m->Inv X pins σ (upd H' D (.lst ys)) s'->H' D=none->H' C=none->QL ys H'->RR (.ref D) C (.ok .next) s') :
    wpAny (model X.prog X.w) X.A (newList []) (λacc s₃=>wpAny (model X.prog X.w) X.A (newFunctionEnv scope X.env.globals (ZgR X.env.cells scope.names []) [] X.env.qual none .none (some X.env)) (λcenv s₄ =>
      codeAny (model X.prog X.w) X.A (.compStart (.ListComp elt [⟨tg,iter,[],0⟩] scope pos) 0 (.ref it) acc { cenv with scope:=relabel scope X.env }) (RR acc cenv.locals) s₄) E s₃) E s:=by
  refine wpAny_newObj_type (Znj O ?_)
  generalize hH2:s.heap.push { cls:=.type "list", dict:=none,data:=.seq ([]:List Value).toArray }=H2
  have hC:H2.objs.size=s.heap.objs.size+1:=by rw[<-hH2,Heap.size_push]
  generalize hCC:H2.objs.size=C at *
  have hCle:s.heap.objs.size<=C:=by rw[hC]; exact Wo _
  generalize hDD:s.heap.objs.size=D at *
  have hDC:D≠C:=by rw[hC]; exact Qb (Ue _)
  have below:∀b,b<D->b≠C/\b≠D:=λb hb=>⟨by rw[hC]; exact Qb (Nat.lt_succ_of_lt hb),Qb hb⟩
  have lts:∀ {b o},s.heap.get? b=some o->b<D:=fun {b o} e=>by rw[<-hDD]; exact Heap.lt_size e
  have s1:(H2.push { cls:=.type "dict", data:=.dict #[] }).objs.size=C+1:=by rw[Heap.size_push,hCC]
  have old2:∀b o,H2.get? b=some o->((H2.push { cls:=.type "dict", data:=.dict #[] }).push { cls:=.type "cell", data:=.cell none }).get? b=some o:=λb o e=>Heap.get?_push_of_some _ (Heap.get?_push_of_some _ e)
  have old:∀b o,s.heap.get? b=some o->((H2.push { cls:=.type "dict", data:=.dict #[] }).push { cls:=.type "cell", data:=.cell none }).get? b=some o:=λb o e=>old2 b o (hH2 ▸ Heap.get?_push_of_some _ e)
  have hacc:((H2.push { cls:=.type "dict", data:=.dict #[] }).push { cls:=.type "cell", data:=.cell none }).get? D=some { cls:=.type "list", data:=.seq ([]:List Value).toArray 0 }:=old2 _ _ (hH2 ▸ (hDD ▸ Heap.get?_push_size _ rfl))
  have hns₁:((H2.push { cls:=.type "dict", data:=.dict #[] }).push { cls:=.type "cell", data:=.cell none }).Ns C (λ_=>none):=by rw[<-hCC]; exact (Heap.Ns.new H2 _).push _
  have hc0:((H2.push { cls:=.type "dict", data:=.dict #[] }).push { cls:=.type "cell", data:=.cell none }).get? (C+1)=some { cls:=.type "cell", data:=.cell none }:=by rw[<-s1]; exact Heap.get?_push_size _ rfl
  generalize (H2.push { cls:=.type "dict", data:=.dict #[] }).push { cls:=.type "cell", data:=.cell none }=h₁ at *
  have hlt:∀b∈fp,b<D:=λb hb=>let ⟨o,e,_⟩:=T.obj 0 _ st b hb; lts e
  have freshS:∀b,D<=b->s.heap.get? b=none:=λb hb=>by
    cases e:s.heap.get? b with
    | none=>rfl
    | some o=>exact absurd (lts e) (U7.mpr hb)
  have nH:∀b,D<=b->H b=none:=λb hb=>I.hok.fresh (by rw[hDD]; exact hb)
  let Y:Cx:=ZcR X x0 scope (own++caps.map (·.2)) s H C fp
  have okY:Y.Ok:=Zja I hkind O hfree (by rw[hDD]; exact hCle) hf (by rw[hDD]; exact hlt)
  have sub:∀x c,(ZgR X.env.cells scope.names []).lookup x=some c->X.env.cells.lookup x=some c:=λx c e=>ZdP scope.names [] (λp hp=>(nomatch hp)) (x,c) (PySem.mem_of_lookup e)
  have celllt:∀x c,X.env.cells.lookup x=some c->c<D:=λx c e=>by
    obtain ⟨v,o,ho,_⟩:=I.cell x c e
    exact lts ho
  have stklt:∀b∈frs X.stack,b<D:=λb hb=>by
    rcases Q8.mp (I.stkSub b hb) with e | e
    · rw[e,<-hDD]; exact I.lt
    · obtain ⟨_,o,ho,_⟩:=I.funs.mem e
      exact lts ho
  have I0:Inv Y [] (st0 own.length caps σ) H { s with heap:=h₁ }:=by
    refine ⟨okY,rfl,I.bare,Un.kept old,⟨_,hns₁,λi x v h1 h2 h3=>?_⟩,λx c e=>?_,nH C hCle,λx c e=>?_,λp hp=>?_,I.hok.kept old,?_⟩
    · obtain ⟨hk,p,hp,hv⟩:=ZjX h2
      have h1':caps[i-own.length]?.map (·.2)=some x:=by
        have:(own++caps.map (·.2))[i]?=some x:=h1
        rw[Wg hk,Qg] at this
        exact this
      rw[hp] at h1'
      cases h1'
      obtain ⟨q1,q2,q3⟩:=hcap.mem p (Q9 hp)
      obtain ⟨m,hn,hl⟩:=I.loc
      obtain ⟨u,r,l⟩:=hl p.1 p.2 v q1 hv (by rcases q3 with z | z; exact .inr (.inl z); exact .inr (.inr z))
      refine ⟨u,r,.inr ⟨Zex q2,?_⟩⟩
      rcases l with ⟨z,_⟩ | ⟨_,c,hc',z⟩
      · rcases q3 with y | y <;> (rw[y] at z; cases z)
      · have hm:(p.2,NameKind.free)∈scope.names:=PySem.mem_of_lookup q2
        obtain ⟨d,hd⟩:=ZdQ scope.names [] hm ⟨c,hc'⟩
        obtain ⟨d',hd'⟩:=Zbj hd
        have e:=sub _ _ hd'
        rw[hc'] at e
        cases e
        obtain ⟨oc,ho,hdt⟩:=z
        have hne:(p.2==x0)=false:=beq_eq_false_iff_ne.mpr λz=>by rw[z,O.lk] at q2; cases q2
        exact ⟨c,by show List.lookup p.2 ((x0,C+1)::_)=_; simp only[W0,hne]; exact hd',oc,old _ _ ho,hdt⟩
    · rcases ZhL e with ⟨_,z⟩ | ⟨_,z⟩
      · exact ⟨none,_,by rw[z]; exact hc0,rfl⟩
      · obtain ⟨v,o,ho,hd⟩:=I.cell x c (sub x c z)
        exact ⟨v,o,old _ _ ho,hd⟩
    · rcases ZhL e with ⟨_,z⟩ | ⟨_,z⟩
      · rw[z]; exact nH _ ⋯
      · exact I.freeC x c (sub x c z)
    · exact absurd (show p∈([]:List (Addr×Obj)) from hp) (by simp)
    · rw[ZjW]
      show _=(own++caps.map (·.2)).length
      rw[Qd,Q1]
  have pinD:∀ {its:List Value} {n:Nat} {σ':St} {H':Hp} {s':Shared},Inv Y [] σ' H' s'->H' D=none->s'.heap.get? D=some { cls:=.type "list", data:=.seq its.toArray n }->Inv Y [(D,{ cls:=.type "list", data:=.seq its.toArray n })] σ' H' s':=fun {its n σ' H' s'} J hn e =>
    J.pins_of λp hp=>by
      have ep:p=(D,{ cls:=.type "list", data:=.seq its.toArray n }):=Q6.mp hp
      subst ep
      refine ⟨e,hn,hDC,λz=>?_,λv z=>by cases z⟩
      exact absurd (stklt D z) (Qx _)
  obtain ⟨W,⟨m0,w0⟩,turn⟩:=hB
  have fpY:∀ {H':Hp} {pins':List (Addr×Obj)},(∀b∈fp,H' b=none)->(∀p∈pins',∀b∈fp,p.1≠b)->∀b∈fp,Zip Y pins' H' b:=fun {H' pins'} hn hp b hb =>
    ⟨hn b hb,(okY.exf b hb).1,okY.exfs b hb,.inl hb,(okY.exf b hb).2,λp q=>hp p (by simpa [Y,ZcR] using q) b hb⟩
  have loop:∀s₃:Shared,s₃={ s with heap:=h₁ } →
      codeAny (model X.prog X.w) X.A (.compLoop (.ListComp elt [⟨tg,iter,[],0⟩] scope pos) 0 (.ref it) (.ref D) (compEnvC scope ((x0,C+1)::ZgR X.env.cells scope.names []) C X.env)) (RR (.ref D) C) s₃:=by
    rintro s₃ rfl
    refine Zew (λk s'=>∃(i:Nat) (ys:List V) (its:List Value) (n:Nat) (H':Hp),Inv Y [(D,{ cls:=.type "list", data:=.seq its.toArray n })] (st0 own.length caps σ) H' s'/\tn i s'.heap/\(∀b∈fp,H' b=none)/\Vals ys its/\W i k ys H') ?_ m0
      ⟨0,[],[],0,H,pinD I0 (nH D (Q4 _)) hacc,T.keep _ _ _ st λb _ o e=>old b o e,λb hb=>(hf b hb).1,.nil,w0⟩
    rintro k s3 ⟨i,ys,its,n,H3,I3,st3,fr3,rv,w3⟩
    obtain ⟨pD,nD,_⟩:=I3.pin (D,{ cls:=.type "list", data:=.seq its.toArray n }) (Qp _ Qv)
    have ff:=fpY (pins':=[(D,{ cls:=.type "list", data:=.seq its.toArray n })]) fr3 (λp hp b hb=>by
      rw[Q6.mp hp]; exact (Ne.symm (below b (hlt b hb)).2))
    obtain ⟨hsz,turn⟩:=turn i k ys H3 w3
    rcases turn with ⟨stop,q⟩ | ⟨go,hsz',NN,hNN,step⟩
    · refine thn (T.done Y rfl rfl rfl hc i _ s3 _ H3 _ I3 ff st3 stop) λr s4 ⟨hr,I4⟩=>?_
      subst hr
      obtain ⟨m4,hn4,_⟩:=I4.loc
      obtain ⟨pD4,nD4,_⟩:=I4.pin (D,{ cls:=.type "list", data:=.seq its.toArray n }) (Qp _ Qv)
      refine fin D C s4 m4 ys H3 hCle hDC hn4 ?_ nD4 I4.free q
      have hk:=I4.base
      have hok4:HOk X.prog X.w H3 s4.heap:=I4.hok
      have neD:∀b u,H3 b=some u->b≠D:=λb u e z=>by rw[z,nD4] at e; cases e
      refine I.call' (ch:=fp) I4.os ⟨λb o e n hb hx=>hk.keep b o e n hb hx,λb o e n hb hx=>hk.slot b o e n hb hx,λb o e n hx=>?_,λb o e hx=>hk.there b o e hx,λb xs e=>?_,λb o u e=>?_,λb ps e=>?_⟩ ?_ I4.bare ?_
      · rw[Zas (below b (lts e)).2]; exact hk.free b o e n hx
      · have:=hk.tups b xs e
        rw[Zas (neD b _ this)]; exact this
      · have:=hk.frzs b o u e
        rw[Zas (neD b _ this)]; exact this
      · obtain ⟨more,e'⟩:=hk.tbls b ps e
        exact ⟨more,by rw[Zas (neD b _ e')]; exact e'⟩
      · intro b u e
        by_cases hb:b=D
        · subst hb
          rw[Zaf] at e
          cases e
          exact ⟨hsz,its,n,rv,pD4⟩
        · rw[Zas hb] at e
          exact (hok4 b u e).stay (λc v _ q=>q) (λc q=>by rw[Zas (neD c _ q)]; exact q) λc xs q=>by rw[Zas (neD c _ q)]; exact q
      · intro b hb
        obtain ⟨_,f1,_,f3,f4,f5⟩:=hf b hb
        exact ⟨f3,f1,f4,f5⟩
    · refine thn (T.item Y rfl rfl rfl hc i _ s3 _ H3 _ I3 ff st3 go) λr s4 ⟨u,hr,h4⟩=>?_
      subst hr
      refine thn h4 λ_ s5 ⟨x,H5,I5,r5,y5,st5,fr5⟩=>?_
      have ff5:=fpY (pins':=[(D,{ cls:=.type "list", data:=.seq its.toArray n })]) fr5 (λp hp b hb=>by
        rw[Q6.mp hp]; exact (Ne.symm (below b (hlt b hb)).2))
      have I5':=I5.pinned ff5 (T.obj _ _ st5)
      refine thn (hg s H C _ s5 _ H5 x u _ I5' r5 (step x H5 y5)) λ_ s6 ⟨σ6,H6,I6,wk,q6⟩=>?_
      refine thn (he s H C _ s6 σ6 H6 _ I6 q6) λy s7 ⟨v,H7,I7,r7,n7⟩=>?_
      obtain ⟨m',hm,w7⟩:=hNN v H7 n7
      obtain ⟨pD7,nD7,_,_,_⟩:=I7.pin (D,{ cls:=.type "list", data:=.seq its.toArray n }) (Qp _ (Us _ Qv))
      refine append_at (n:=n) pD7 (λh' hs' hD'=>?_) (by rw[Qh,<-rv.length]; exact hsz)
      have st7:tn (i+1) s7.heap:=T.keep _ _ _ st5 λb hb o e=>(I7.pin (b,o) (Qp _ (Qp _ (ZbN hb e)))).1
      have fr7:∀b∈fp,H7 b=none:=λb hb=>by
        obtain ⟨o,e,d⟩:=T.obj _ _ st5 b hb
        exact (I7.pin (b,o) (Qp _ (Qp _ (ZbN hb e)))).2.1
      have I8:Inv Y [] σ6 H7 s7:=I7.pins_of λp hp=>(nomatch hp)
      have I9:Inv Y [] (st0 own.length caps σ) H7 s7:=I8.weak (by rw[I0.len,I8.len]) wk
      have I10:Inv Y [] (st0 own.length caps σ) H7 { s7 with heap:=h' }:=I9.turned (t':=s7.toks) (it:=D) (λb o hb e=>hs'.extBut b o hb e) nD7 hDC (.inr (Wx hDD)) (λx c e=>by
        rcases ZhL e with ⟨_,z⟩ | ⟨_,z⟩
        · rw[z,hC]; exact Uc (Nat.lt_succ_of_lt (Ue _))
        · exact Qb (celllt x c (sub x c z))) (λp hp=>absurd (show p∈([]:List (Addr×Obj)) from hp) (by simp))
      refine ⟨m',hm,i+1,ys++[v],its++[y],n+1,H7,pinD I10 nD7 ?_,?_,fr7,rv.append (.cons r7 .nil),w7⟩
      · rw[hD',List.push_toArray]
      · exact T.keep _ _ _ st7 λb hb o e=>hs'.extBut b o (below b (hlt b hb)).2 e
  have tn1:tn 0 h₁:=T.keep _ _ _ st λb _ o e=>old b o e
  exact codeAny_compStart_list (loop _ rfl) (T.self _ 0 _ _ _ tn1 (loop _ rfl))
theorem ZlQ(x0:Str)(own:List Str)(caps:List (Nat×Str))(hc:X.calm=true)(hi:PI X tg iter wi)(hg:∀fp s₀ H₀ C,PG (ZcR X x0 scope (own++caps.map (·.2)) s₀ H₀ C fp) tg g)(he:∀fp s₀ H₀ C,PE (ZcR X x0 scope (own++caps.map (·.2)) s₀ H₀ C fp) elt te)
    (hcap:CapsOk X scope caps) (O:OneCell scope x0)
    (hfr:(scope.names.all λy=>!(y.2==NameKind.free)||(X.env.cells.lookup y.1).isSome)=true:=by rfl)
    (hkind:scope.kind = .function:=by rfl)
    (hnames:∀y∈scope.names,y.2 = .local->scope.names.lookup y.1=some .local:=by decide +kernel) (hs:∀x,foldedSetIterable iter X.env x=pure x:=by intro _; rfl) :
    PE X (.ListComp elt [⟨tg,iter,[],0⟩] scope pos) (Zna own.length caps wi g te):=by
  intro pins s σ H Q I h
  have hfree:=Zf5 hfr
  have hclos:=Zd2 hfree
  rw[eval_ListComp]
  refine wpAny_comprehension_free (use:=none) rfl hs hclos hkind hnames (thn (hi pins s σ H _ I h) λv s1 h1=>thn h1 λitv s2 h2=>?_)
  obtain ⟨it,fp,tn,J,H2,e,I2,T,st2,f2,hB⟩:=h2
  subst e
  refine Zjb (RR:=λacc C=>compPost (model X.prog X.w) X.A X.xe none (EP X pins σ Q) acc C) I2 hc T st2 f2 hkind O hfree hcap (hg fp) (he fp) hB ?_
  intro D C s' m ys H' hC hDC hn I3 nD nC q
  refine ⟨m,hn,λh' hs'=>⟨.ref D,upd H' D (.lst ys),?_,rfl,q D nD⟩⟩
  exact I3.turned (t':=s'.toks) (it:=C) (λb o hb e=>hs'.extBut b o hb e) (by rw[Zas (Ne.symm hDC)]; exact nC) (Ne.symm (Qb (Q5 I2.lt hC))) (.inr (Q0 I2.sz hC))
    (λx c e z=>by
      obtain ⟨v,o,ho,_⟩:=I2.cell x c e
      rw[z] at ho
      exact absurd (Q5 (Heap.lt_size ho) hC) (Qx _))
    (λp hp z=>by
      have:=(I2.pin p hp).1
      rw[z] at this
      exact absurd (Q5 (Heap.lt_size this) hC) (Qx _))
end
end L2
namespace L2
open PySem PySem.Spec PyProof.Rows
section
variable{X:Cx}{k:Nat}{f C:Addr}{fd:FuncData}{ps:List Str}{sp:Sp}{dvs:List V}{ds:List Value}{E:St->XK}{x:Str}{p pos:Pos}{e:Expr}{es:List Expr}{t:TA}
end
end L2
namespace L2
open PySem PySem.Spec PyProof.Rows
@[irreducible] def PEI (X:Cx) (e:Expr) (t:TE):Prop:=PE X e t
@[irreducible] def PSI (X:Cx) (st:Stmt) (t:TS):Prop:=PS X st t
@[irreducible] def PSsI (X:Cx) (st:List Stmt) (t:TS):Prop:=PSs X st t
section
variable{X:Cx}{st:Stmt}{rest:List Stmt}{t u:TS}{e:Expr}{te:TE}{pos:Pos}
end
end L2
namespace L2
open PySem PySem.Spec PyProof.Rows
section
variable{X:Cx}
end
def Fl(H:Hp)(x:V)(d:PyData):Prop:=(x = .non/\d = .none)\/(∃b,x = .bl b/\d = .bool b)\/(∃i,x = .int i/\d = .int i)\/(∃y,x = .str y/\d = .str y)\/(∃a,x = .ref a/\d = .dict []/\H a=some (.dK []))
def Rp(H:Hp):Nat->V->PyData->Prop
  | 0,x,d=>Fl H x d
  | n+1,x,d=>Fl H x d\/(∃a xs ds,x = .ref a/\d = .list ds/\H a=some (.lst xs)/\xs.length=ds.length/\∀(i:Nat) u e,xs[i]?=some u->ds[i]?=some e->Rp H n u e) ∨
      (∃a xs ds,x = .ref a/\d = .tuple ds/\H a=some (.tup xs)/\xs.length=ds.length/\∀(i:Nat) u e,xs[i]?=some u->ds[i]?=some e->Rp H n u e)
theorem Fl.same{H H':Hp}{x:V}{d:PyData}(h:Fl H x d)(S:Same H H'):Fl H' x d:=by
  rcases h with h | h | h | h | ⟨a,e1,e2,h⟩
  · exact .inl h
  · exact .inr (.inl h)
  · exact .inr (.inr (.inl h))
  · exact .inr (.inr (.inr (.inl h)))
  · exact .inr (.inr (.inr (.inr ⟨a,e1,e2,S _ _ h⟩)))
theorem Rp.same{H H':Hp}(S:Same H H'):∀ {n:Nat} {x:V} {d:PyData},Rp H n x d->Rp H' n x d
  | 0,_,_,h=>Fl.same h S
  | n+1,x,d,h=>by
    rcases h with h | ⟨a,xs,ds,e1,e2,h,l,r⟩ | ⟨a,xs,ds,e1,e2,h,l,r⟩
    · exact .inl (Fl.same h S)
    · exact .inr (.inl ⟨a,xs,ds,e1,e2,S _ _ h,l,λi u e a b=>Rp.same S (r i u e a b)⟩)
    · exact .inr (.inr ⟨a,xs,ds,e1,e2,S _ _ h,l,λi u e a b=>Rp.same S (r i u e a b)⟩)
theorem Rp.up{H:Hp}:∀ {n:Nat} {x:V} {d:PyData},Rp H n x d->Rp H (n+1) x d
  | 0,_,_,h => .inl h
  | n+1,x,d,h=>by
    rcases h with h | ⟨a,xs,ds,e1,e2,h,l,r⟩ | ⟨a,xs,ds,e1,e2,h,l,r⟩
    · exact .inl h
    · exact .inr (.inl ⟨a,xs,ds,e1,e2,h,l,λi u e a b=>Rp.up (r i u e a b)⟩)
    · exact .inr (.inr ⟨a,xs,ds,e1,e2,h,l,λi u e a b=>Rp.up (r i u e a b)⟩)
theorem Rp.mono{H:Hp}{x:V}{d:PyData}{n m:Nat}(h:Rp H n x d)(l:n<=m):Rp H m x d:=by
  induction m with
  | zero => obtain rfl:n = 0:=by omega
            exact h
  | succ m ih =>
    by_cases e:n=m+1
    · subst e; exact h
    · exact (ih ⋯).up
section
variable{X:Cx}{pins:List (Addr×Obj)}{σ:St}{H:Hp}{s:Shared}
theorem Zos(I:Inv X pins σ H s){a:Addr}(h:H a=some (.dK [])):(a==sysModules)=false/\s.heap.DictOf (Zdt X.prog X.w) a []:=by
  obtain ⟨_,z,vs,kv,p⟩:=(show ObjOk X.prog X.w H s.heap a (.dK []) from I.hok a _ h)
  cases kv
  exact ⟨z,p⟩
theorem ZeH{P P':Program}{w w':World}{h:Heap}{a:Addr}(d:h.DictOf (Zdt P w) a []):h.DictOf (Zdt P' w') a []:=by
  obtain ⟨o,es,ep,h1,h2,h3,h4,h5,h6⟩:=d
  refine ⟨o,es,ep,h1,h2,h3,?_,?_,h6⟩
  · have:es.toList=[]:=by cases q:es.toList with
      | nil=>rfl
      | cons x r=>rw[q] at h5; cases h5
    intro e he
    rw[Array.mem_def,this] at he
    cases he
  · cases q:es.toList with
    | nil=>exact .nil
    | cons x r=>rw[q] at h5; cases h5
theorem Fl.rc{A:Around}{x y:V}{v u:Value}{d:PyData}(I:Inv X pins σ H s)(hu:A.units<cLine)(hx:Fl H x d)(hy:Fl H y d)(rx:RelV x v)(ry:RelV y u):SeqAt.RcAt A s v u true/\SeqAt.RcNeAt A s v u false:=by
  rcases hx with ⟨rfl,rfl⟩ | ⟨b,rfl,rfl⟩ | ⟨i,rfl,rfl⟩ | ⟨z,rfl,rfl⟩ | ⟨a,rfl,rfl,ha⟩ <;> rcases hy with ⟨rfl,e⟩ | ⟨b',rfl,e⟩ | ⟨i',rfl,e⟩ | ⟨z',rfl,e⟩ | ⟨a',rfl,e,ha'⟩ <;> cases e
  · cases rx; cases ry; exact ⟨SeqAt.RcAt.none_none,SeqAt.RcNeAt.none_none⟩
  · cases rx; cases ry
    exact ⟨by have:=SeqAt.RcAt.bool_bool (A:=A) (s:=s) b b; simpa using this,by have:=SeqAt.RcNeAt.bool_bool (A:=A) (s:=s) b b; simpa using this⟩
  · obtain ⟨t1,rfl⟩:=rx
    obtain ⟨t2,rfl⟩:=ry
    exact ⟨by have:=SeqAt.RcAt.int_int (A:=A) (s:=s) i t1 i t2; simpa using this,by have:=SeqAt.RcNeAt.int_int (A:=A) (s:=s) i t1 i t2; simpa using this⟩
  · obtain ⟨t1,rfl⟩:=rx
    obtain ⟨t2,rfl⟩:=ry
    exact ⟨by have:=SeqAt.RcAt.str_str (A:=A) (s:=s) z t1 z t2; simpa using this,by have:=SeqAt.RcNeAt.str_str (A:=A) (s:=s) z t1 z t2; simpa using this⟩
  · cases rx; cases ry
    obtain ⟨n1,d1⟩:=Zos I ha
    obtain ⟨n2,d2⟩:=Zos I ha'
    refine ⟨λprog w E Q q=>?_,λprog w E Q q=>?_⟩
    · exact PySem.W.keq_eq (knd:=Zdt prog w) (r:=true) n1 n2 (ZeH d1) (ZeH d2) hu (λ_ => .nil) q
    · exact PySem.W.keq_ne (knd:=Zdt prog w) (r:=true) n1 n2 (ZeH d1) (ZeH d2) hu (λ_ => .nil) q
theorem Fl.at{A:Around}{x y:V}{v u:Value}{d:PyData}(I:Inv X pins σ H s)(hu:A.units<cLine)(hx:Fl H x d)(hy:Fl H y d)(rx:RelV x v)(ry:RelV y u):SeqAt.EqAt A s v u true:=by
  have rc:=(Fl.rc I hu hx hy rx ry).1
  rcases hx with ⟨rfl,rfl⟩ | ⟨b,rfl,rfl⟩ | ⟨i,rfl,rfl⟩ | ⟨z,rfl,rfl⟩ | ⟨a,rfl,rfl,ha⟩ <;> rcases hy with ⟨rfl,e⟩ | ⟨b',rfl,e⟩ | ⟨i',rfl,e⟩ | ⟨z',rfl,e⟩ | ⟨a',rfl,e,ha'⟩ <;> cases e
  · cases rx; cases ry; exact SeqAt.EqAt.same _
  · cases rx; cases ry; exact SeqAt.EqAt.same _
  · obtain ⟨t1,rfl⟩:=rx
    obtain ⟨t2,rfl⟩:=ry
    have:=SeqAt.EqAt.int_int (A:=A) (s:=s) i t1 i t2
    simpa using this
  · obtain ⟨t1,rfl⟩:=rx
    obtain ⟨t2,rfl⟩:=ry
    have:=SeqAt.EqAt.str_str (A:=A) (s:=s) z t1 z t2
    simpa using this
  · cases rx; cases ry
    by_cases hab:a=a'
    · subst hab; exact SeqAt.EqAt.same _
    · exact SeqAt.EqAt.of_refs hab rc
theorem Vals.at2{xs:List V}{its:List Value}(r:Vals xs its){j:Nat}(h:j<its.toArray.size):∃x,xs[j]?=some x/\RelV x its.toArray[j]:=by
  have l:=r.length
  have j1:j<xs.length:=by simp at h; omega
  obtain ⟨v1,e1,q1⟩:=r.get (i:=j) (x:=xs[j]) (by simp[j1])
  have f1:its.toArray[j]=v1:=by
    have:its[j]?=some its.toArray[j]:=by simp at h; simp[h]
    rw[this] at e1; exact Option.some.inj e1
  exact ⟨xs[j],by simp[j1],by rw[f1]; exact q1⟩
theorem Zaw{α β:Type}{xs:List α}{ds:List β}{j:Nat}{x:α}(h:xs[j]?=some x)(l:xs.length=ds.length):∃d,ds[j]?=some d:=by
  have:=(Qw.mp h).1
  exact ⟨ds[j]'⋯,Q2 ⋯⟩
theorem Rp.both(I:Inv X pins σ H s):∀(n:Nat) (A:Around) (x y:V) (v u:Value) (d:PyData),A.units+n<cLine->Rp H n x d->Rp H n y d->RelV x v->RelV y u->SeqAt.EqAt A s v u true/\SeqAt.RcAt A s v u true/\SeqAt.RcNeAt A s v u false
  | 0,A,x,y,v,u,d,hu,hx,hy,rx,ry=>⟨Fl.at I hu hx hy rx ry,Fl.rc I hu hx hy rx ry⟩
  | n+1,A,x,y,v,u,d,hu,hx,hy,rx,ry=>by
    have hu0:A.units<cLine:=by omega
    rcases hx with hx | ⟨a,xs,ds,rfl,rfl,ha,hl,hi⟩ | ⟨a,xs,ds,rfl,rfl,ha,hl,hi⟩
    · have hy':Fl H y d:=by
        rcases hy with hy | ⟨b,ys,es,rfl,rfl,hb,hm,hj⟩ | ⟨b,ys,es,rfl,rfl,hb,hm,hj⟩
        · exact hy
        · rcases hx with ⟨_,e⟩ | ⟨_,_,e⟩ | ⟨_,_,e⟩ | ⟨_,_,e⟩ | ⟨_,_,e,_⟩ <;> cases e
        · rcases hx with ⟨_,e⟩ | ⟨_,_,e⟩ | ⟨_,_,e⟩ | ⟨_,_,e⟩ | ⟨_,_,e,_⟩ <;> cases e
      exact ⟨Fl.at I hu0 hx hy' rx ry,Fl.rc I hu0 hx hy' rx ry⟩
    · obtain ⟨b,ys,rfl,hb,hm,hj⟩:∃b ys,y = .ref b/\H b=some (.lst ys)/\ys.length=ds.length/\∀(i:Nat) u e,ys[i]?=some u->ds[i]?=some e->Rp H n u e:=by
        rcases hy with hy | ⟨b,ys,es,e1,e2,hb,hm,hj⟩ | ⟨b,ys,es,e1,e2,hb,hm,hj⟩
        · rcases hy with ⟨_,e⟩ | ⟨_,_,e⟩ | ⟨_,_,e⟩ | ⟨_,_,e⟩ | ⟨_,_,e,_⟩ <;> cases e
        · cases e2; exact ⟨b,ys,e1,hb,hm,hj⟩
        · cases e2
      cases rx
      cases ry
      obtain ⟨its,r1,p1,_⟩:=I.list (SqL.of ha)
      obtain ⟨jts,r2,p2,_⟩:=I.list (SqL.of hb)
      have l1:=r1.length
      have l2:=r2.length
      have el:∀(j:Nat) (h1:j<its.toArray.size) (h2:j<jts.toArray.size),SeqAt.EqAt A.in1 s its.toArray[j] jts.toArray[j] true:=λj h1 h2=>by
        obtain ⟨x1,g1,q1⟩:=r1.at2 h1
        obtain ⟨x2,g2,q2⟩:=r2.at2 h2
        obtain ⟨d,gd⟩:=Zaw g1 hl
        exact (Rp.both I n A.in1 _ _ _ _ d (by show A.units+1+n<cLine; omega) (hi j _ _ g1 gd) (hj j _ _ g2 gd) q1 q2).1
      have rc:=SeqAt.RcAt.lists (A:=A) (e:=λ_=>true) p1.isList p2.isList (by simp; omega) hu0 el
      have rn:=SeqAt.RcNeAt.lists (A:=A) (e:=λ_=>true) p1.isList p2.isList (by simp; omega) hu0 el
      rw[Zdr] at rc rn
      refine ⟨?_,rc,rn⟩
      by_cases hab:a=b
      · subst hab; exact SeqAt.EqAt.same _
      · exact SeqAt.EqAt.of_refs hab rc
    · obtain ⟨b,ys,rfl,hb,hm,hj⟩:∃b ys,y = .ref b/\H b=some (.tup ys)/\ys.length=ds.length/\∀(i:Nat) u e,ys[i]?=some u->ds[i]?=some e->Rp H n u e:=by
        rcases hy with hy | ⟨b,ys,es,e1,e2,hb,hm,hj⟩ | ⟨b,ys,es,e1,e2,hb,hm,hj⟩
        · rcases hy with ⟨_,e⟩ | ⟨_,_,e⟩ | ⟨_,_,e⟩ | ⟨_,_,e⟩ | ⟨_,_,e,_⟩ <;> cases e
        · cases e2
        · cases e2; exact ⟨b,ys,e1,hb,hm,hj⟩
      cases rx
      cases ry
      obtain ⟨its,r1,p1,_⟩:=I.tuple (SqT.of ha)
      obtain ⟨jts,r2,p2,_⟩:=I.tuple (SqT.of hb)
      have l1:=r1.length
      have l2:=r2.length
      have el:∀(j:Nat) (h1:j<its.toArray.size) (h2:j<jts.toArray.size),SeqAt.EqAt A.in1 s its.toArray[j] jts.toArray[j] true:=λj h1 h2=>by
        obtain ⟨x1,g1,q1⟩:=r1.at2 h1
        obtain ⟨x2,g2,q2⟩:=r2.at2 h2
        obtain ⟨d,gd⟩:=Zaw g1 hl
        exact (Rp.both I n A.in1 _ _ _ _ d (by show A.units+1+n<cLine; omega) (hi j _ _ g1 gd) (hj j _ _ g2 gd) q1 q2).1
      have es:(its.toArray.size==jts.toArray.size)=true:=by simp; omega
      have rc:=SeqAt.RcAt.tuples (A:=A) (e:=λ_=>true) p1 p2 hu0 el
      have rn:=SeqAt.RcNeAt.tuples (A:=A) (e:=λ_=>true) p1 p2 hu0 el
      rw[Zdr,es] at rc rn
      refine ⟨?_,rc,rn⟩
      by_cases hab:a=b
      · subst hab; exact SeqAt.EqAt.same _
      · exact SeqAt.EqAt.of_refs hab rc
end
section
variable{X:Cx}{k:Nat}
def Zp6:R2:=λx y H Q=>∃d,Rp H 8 x d/\Rp H 8 y d/\Q (.bl true) H
def Zp7:R2:=λx y H Q=>∃d,Rp H 8 x d/\Rp H 8 y d/\Q (.bl false) H
theorem ZiC(hr:Room k X.A):OpR X (compareOp .Eq) Zp6:=by
  intro pins s σ H x y v u Q I rx ry h
  obtain ⟨d,hx,hy,q⟩:=h
  have hu:=hr.units
  exact (Rp.both I 8 X.A x y v u d ⋯ hx hy rx ry).2.1 _ _ _ _ ⟨.bl true,H,I,rfl,q⟩
theorem Zkb(hr:Room k X.A):OpR X (compareOp .NotEq) Zp7:=by
  intro pins s σ H x y v u Q I rx ry h
  obtain ⟨d,hx,hy,q⟩:=h
  have hu:=hr.units
  exact (Rp.both I 8 X.A x y v u d ⋯ hx hy rx ry).2.2 _ _ _ _ ⟨.bl false,H,I,rfl,q⟩
end
end L2
namespace L2
open PySem PySem.Spec PyProof.Rows
section
variable{X:Cx}{es:List Expr}{te:TE}{t:TA}{p:Pos}{k:Nat}
end
def All2(R:V->PyData->Prop)(xs:List V)(ds:List PyData):Prop:=xs.length=ds.length/\∀(i:Nat) v d,xs[i]?=some v->ds[i]?=some d->R v d
section
variable{R R':V->PyData->Prop}{xs ys:List V}{ds es:List PyData}{x:V}{d:PyData}
theorem All2.nil:All2 R [] []:=⟨rfl,λi v d h=>by simp at h⟩
theorem All2.cons(h:R x d)(t:All2 R xs ds):All2 R (x::xs) (d::ds):=by
  refine ⟨by simp[t.1],λi v e hv he=>?_⟩
  cases i with
  | zero=>cases hv; cases he; exact h
  | succ i=>exact t.2 i v e (by simpa using hv) (by simpa using he)
theorem Zkc{H:Hp}{n:Nat}{a:Addr}(h:H a=some (.lst xs))(g:All2 (Rp H n) xs ds):Rp H (n+1) (.ref a) (.list ds):=.inr (.inl ⟨a,xs,ds,rfl,rfl,h,g.1,g.2⟩)
theorem Zot{H:Hp}{n:Nat}{a:Addr}(h:H a=some (.tup xs))(g:All2 (Rp H n) xs ds):Rp H (n+1) (.ref a) (.tuple ds):=.inr (.inr ⟨a,xs,ds,rfl,rfl,h,g.1,g.2⟩)
end
end L2
namespace L2
open PySem PySem.Spec PyProof.Rows
theorem Bits.le{n:Nat}{i j:Int}(h:Bits n j)(l:i.natAbs<=j.natAbs):Bits n i:=Bits.of (Qc l h.lt)
theorem Bits.up{n m:Nat}{i:Int}(h:Bits n i)(l:n<=m):Bits m i:=Q0 h l
theorem Bits.mulT{i j:Int}(h:Bits 1000000 i)(h':Bits 1000000 j):IntMulOk i j:=Bits.mul (h.up ∅) (h'.up ∅)
theorem Bits.mulG{i j:Int}(h:Bits 1000000 i)(h':Bits 4000 j):IntMulOk i j:=h.mulT (h'.up ∅)
theorem Bits.times{n m:Nat}{i j:Int}(h:Bits n i)(h':Bits m j):Bits (n+m) (i*j):=Bits.of (by
  rw[Qq,Uk]
  exact Nat.mul_lt_mul'' h.lt h'.lt)
theorem Bits.plus{n:Nat}{i j:Int}(h:Bits n i)(h':Bits n j):Bits (n+1) (i+j):=Bits.of (by
  have:=Int.natAbs_add_le i j
  have a:=h.lt
  have b:=h'.lt
  rw[Wc]
  omega)
theorem Bits.log{n:Nat}{i:Int}(h:Bits n i)(h0:i≠0):i.natAbs.log2<n:=by
  have:i.natAbs.log2+1<=n:=by unfold Bits Builtin.Int.intBits at h; simpa [h0] using h
  omega
section
variable{X:Cx}
theorem ZbM:OpR X (binaryOp .FloorDiv) (rI (λ_ j=>j≠0/\Bits 4000 j) λi j => .int (i.fdiv j)):=opI λ_ _ _ _ _ _ _ hc q=>floordiv_int hc.1 q (.inl (PyProof.noPylong_of_log2 (U4 (hc.2.log hc.1) ∅)))
end
end L2
namespace L2
open PySem PySem.Spec PyProof.Rows
def AllG{β:Type}(R:V->β->Prop)(xs:List V)(ds:List β):Prop:=xs.length=ds.length/\∀(i:Nat) v d,xs[i]?=some v->ds[i]?=some d->R v d
section
variable{β:Type}{R R':V->β->Prop}{xs ys:List V}{ds es:List β}{x:V}{d:β}
theorem AllG.nil:AllG R [] []:=⟨rfl,λi v d h=>by simp at h⟩
theorem AllG.cons(h:R x d)(t:AllG R xs ds):AllG R (x::xs) (d::ds):=by
  refine ⟨by simp[t.1],λi v e hv he=>?_⟩
  cases i with
  | zero=>cases hv; cases he; exact h
  | succ i=>exact t.2 i v e (by simpa using hv) (by simpa using he)
theorem AllG.mono(h:AllG R xs ds)(f:∀v d,R v d->R' v d):AllG R' xs ds:=⟨h.1,λi v d a b=>f v d (h.2 i v d a b)⟩
theorem AllG.append(h:AllG R xs ds)(g:AllG R ys es):AllG R (xs++ys) (ds++es):=by
  refine ⟨by rw[Qd,Qd,h.1,g.1],λi v e hv he=>?_⟩
  have l:=h.1
  by_cases hi:i<xs.length
  · rw[Wh hi] at hv
    rw[Wh ⋯] at he
    exact h.2 i v e hv he
  · rw[Wg ⋯] at hv he
    rw[<-l] at he
    exact g.2 _ v e hv he
theorem AllG.one(h:R x d):AllG R [x] [d]:=.cons h .nil
theorem AllG.get(h:AllG R xs ds){i:Nat}(hv:xs[i]?=some x):∃d,ds[i]?=some d/\R x d:=by
  obtain ⟨d,e⟩:=Zaw hv h.1
  exact ⟨d,e,h.2 i x d hv e⟩
theorem AllG.get'(h:AllG R xs ds){i:Nat}(hi:i<ds.length):∃x,xs[i]?=some x/\R x ds[i]:=by
  have l:=h.1
  exact ⟨xs[i]'⋯,Q2 ⋯,h.2 i _ _ (Q2 ⋯) (Q2 hi)⟩
theorem AllG.all2{D:β->PyData}{R2:V->PyData->Prop}(h:AllG R xs ds)(f:∀v b,R v b->R2 v (D b)):All2 R2 xs (ds.map D):=by
  refine ⟨by rw[Q1]; exact h.1,λi v d hv hd=>?_⟩
  rw[Qg] at hd
  cases e:ds[i]? with
  | none=>rw[e] at hd; cases hd
  | some b=>rw[e] at hd; cases hd; exact f v b (h.2 i v b hv e)
theorem AllG.zip{α:Type}{R3:V->α->Prop}{as:List α}(h:AllG R xs ds)(g:AllG R3 ys as){i:Nat}{a b:V}(ha:xs[i]?=some a)(hb:ys[i]?=some b):∃p q,ds[i]?=some p/\as[i]?=some q/\R a p/\R3 b q:=by
  obtain ⟨p,hp,rp⟩:=h.get ha
  obtain ⟨q,hq,rq⟩:=g.get hb
  exact ⟨p,q,hp,hq,rp,rq⟩
end
end L2
namespace L2
open PySem PySem.Spec PyProof.Rows
section
variable{X:Cx}{k:Nat}
theorem ZmC{x y:V}{us:List Value}(r:Vals [x,y] us):∃u v,us=[u,v]/\RelV x u/\RelV y v:=by
  cases r with
  | cons r t=>cases t with
    | cons r2 t2=>cases t2; exact ⟨_,_,rfl,r,r2⟩
end
end L2
namespace L2
open PySem PySem.Spec PyProof.Rows
section
variable{X:Cx}{tg:Expr}
end
section
variable{X:Cx}{k:Nat}
end
end L2
namespace L2
open PySem PySem.Spec PyProof.Rows
section
variable{X:Cx}{tg iter elt:Expr}{scope:Scope}{pos:Pos}{wi:TI}{g:TG}{te:TE}{own:List Str}{caps:List (Nat×Str)}
end
end L2
namespace L2
open PySem PySem.Spec PyProof.Rows
def Zou(H:Hp)(x y:V)(b:Bool):Prop:=(∃i j:Int,x = .int i/\y = .int j/\b=decide (i=j)) ∨
  (∃(a c:Addr) (n1 d1 n2 d2:Int),x = .ref a/\y = .ref c/\H a=some (.tup [.int n1,.int d1])/\H c=some (.tup [.int n2,.int d2])/\b=(decide (n1=n2)&&decide (d1=d2)))
section
variable{X:Cx}{k:Nat}
def Zp8:R2:=λx y H Q=>∃b,Zou H x y b/\Q (.bl b) H
theorem Znk{pins:List (Addr×Obj)}{s:Shared}{σ:St}{H:Hp}{a c:Addr}{n1 d1 n2 d2:Int}{A:Around}(I:Inv X pins σ H s)(ha:H a=some (.tup [.int n1,.int d1]))(hc:H c=some (.tup [.int n2,.int d2]))(hu:A.units<cLine) :
    SeqAt.RcAt A s (.ref a) (.ref c) (decide (n1=n2)&&decide (d1=d2))/\SeqAt.RcNeAt A s (.ref a) (.ref c) (!(decide (n1=n2)&&decide (d1=d2))):=by
  obtain ⟨its,r1,p1,_⟩:=I.tuple (SqT.of ha)
  obtain ⟨u1,u2,rfl,ru1,ru2⟩:=ZmC r1
  obtain ⟨t1,rfl⟩:=ru1
  obtain ⟨t2,rfl⟩:=ru2
  obtain ⟨jts,r2,p2,_⟩:=I.tuple (SqT.of hc)
  obtain ⟨w1,w2,rfl,rw1,rw2⟩:=ZmC r2
  obtain ⟨s1,rfl⟩:=rw1
  obtain ⟨s2,rfl⟩:=rw2
  have el:∀(j:Nat) (h1:j<(#[Value.int n1 t1,Value.int d1 t2]:Array Value).size) (h2:j<(#[Value.int n2 s1,Value.int d2 s2]:Array Value).size),SeqAt.EqAt A.in1 s (#[Value.int n1 t1,Value.int d1 t2]:Array Value)[j] (#[Value.int n2 s1,Value.int d2 s2]:Array Value)[j] (if j=0 then n1==n2 else d1==d2):=λj h1 h2=>by
    have h1':j<2:=h1
    match j,h1' with
    | 0,_=>exact SeqAt.EqAt.int_int n1 t1 n2 s1
    | 1,_=>exact SeqAt.EqAt.int_int d1 t2 d2 s2
  have e:((List.range (min (#[Value.int n1 t1,Value.int d1 t2]).size (#[Value.int n2 s1,Value.int d2 s2]).size)).all (λj=>if j=0 then n1==n2 else d1==d2)&&(#[Value.int n1 t1,Value.int d1 t2]).size==(#[Value.int n2 s1,Value.int d2 s2]).size)=(decide (n1=n2)&&decide (d1=d2)):=by
    show ((n1==n2)&&((d1==d2)&&true)&&true)=_
    rw[Bool.and_true,Bool.and_true]
    rfl
  have rc:=SeqAt.RcAt.tuples (A:=A) (e:=λj=>if j=0 then n1==n2 else d1==d2) p1 p2 hu el
  have rn:=SeqAt.RcNeAt.tuples (A:=A) (e:=λj=>if j=0 then n1==n2 else d1==d2) p1 p2 hu el
  rw[e] at rc rn
  exact ⟨rc,rn⟩
theorem ZmD(hr:Room k X.A):OpR X (compareOp .Eq) Zp8:=by
  intro pins s σ H x y v u Q I rx ry h
  obtain ⟨b,hb,q⟩:=h
  rcases hb with ⟨i,j,rfl,rfl,rfl⟩ | ⟨a,c,n1,d1,n2,d2,rfl,rfl,ha,hc,rfl⟩
  · refine Zbh pins s σ H _ _ v u Q I rx ry ⟨rfl,?_⟩
    have:decide (V.int i=V.int j)=decide (i=j):=by rw[Zhz]; rfl
    rw[this]; exact q
  · cases rx
    cases ry
    have hu:X.A.units<cLine:=by have:=hr.units; omega
    exact (Znk I ha hc hu).1 _ _ _ _ ⟨.bl _,H,I,rfl,q⟩
end
end L2
namespace L2
open PySem PySem.Spec PyProof.Rows
section
variable{X:Cx}{tg iter elt cnd:Expr}{scope:Scope}{pos:Pos}{wi:TI}{g:TG}{tt:TT}{te:TE}{own:List Str}{caps:List (Nat×Str)}
end
end L2
namespace L2
open PySem PySem.Spec PyProof.Rows
def Znl(i:Nat)(t:TS):TS:=λD σ H=>t { D with nx:=λσ' H'=>D.nx (σ'.set i none) H' } σ H
theorem Zkd{X:Cx}{st:Stmt}{t:TS}(i:Nat)(h:PS X st t):PS X st (Znl i t):=by
  intro pins s σ H D I q
  refine thn (h pins s σ H _ I q) λf s' q=>?_
  cases f with
  | next =>
    obtain ⟨σ',H',I',d⟩:=q
    refine ⟨σ'.set i none,H',I'.weak (W7 ..) (λj v e=>?_),d⟩
    rw[Wj] at e
    split at e
    · split at e
      · cases e
      · cases e
    · exact e
  | brk=>exact q
  | cont=>exact q
  | ret u=>exact q
end L2
namespace L2
open PySem PySem.Spec PyProof.Rows
def ZiD(K:PySem.W.Frag)(C CE:Addr):Bool:=(K.lookup C).any λo=>match o.cls,o.data with
  | .type ty,.cls c=>ty == "type" && !c.hasDel&&c.hasDict&&c.mro == .ref C :: .ref CE::bmV&&(match o.slots.toList with | [_,_,_,_,some (.builtin n),_]=>n == "ValueError.__new__" | _=>false)
  | _,_=>false
structure XIni (K:PySem.W.Frag) (mg:Str->Option Value) (x:Str) (C CE f:Addr):Prop where
  cls:XCls K C
  mgx:mg x=some (.ref C)
  own:ZiD K C CE=true
  tail:PySem.W.tailIn K bmV (.ref CE::bmV)=true
  ini:PySem.W.findIn K (.ref C) "__init__" = some (some (.ref f))
  fn:PySem.W.typeIn K (.ref f)=some (.type "function")
  kp:PySem.W.keepIn K (.ref C)=true
  sa:PySem.W.findIn K (.ref C) "__setattr__" = some (some (.builtin "object.__setattr__"))
  sf:PySem.W.mroIn K C (.ref C)=some true
theorem Zdh{K:PySem.W.Frag}{C CE:Addr}{h:Heap}(X:K.In h)(q:ZiD K C CE=true) :
    ∃nm qn N bs sn sub ab col dd k0 k1 k2 k3 k5,h.get? C=some (excClassObj nm qn C N bs (.ref CE::bmV) true sn sub ab col dd k0 k1 k2 k3 k5 "ValueError.__new__"):=by
  unfold ZiD at q
  cases e:K.lookup C with
  | none=>rw[e] at q; cases q
  | some o =>
    rw[e,Option.any_some] at q
    obtain ⟨oc,od,dat,⟨sl⟩⟩:=o
    dsimp only at q
    split at q
    · rename_i ty c
      simp only[Uj,beq_iff_eq,Bool.not_eq_true'] at q
      obtain ⟨⟨⟨⟨rfl,a2⟩,a3⟩,a4⟩,a5⟩:=q
      split at a5
      · rename_i k0 k1 k2 k3 n k5
        obtain rfl:n = "ValueError.__new__" := beq_iff_eq.mp a5
        obtain ⟨nm,bs,mro,ns,qn,hd,sn,sub,ab,col,del⟩:=c
        dsimp only at a2 a3 a4
        subst a2 a3 a4
        exact ⟨nm,qn,ns,bs,sn,sub,ab,col,od,k0,k1,k2,k3,k5,X _ _ e⟩
      · cases a5
    · cases q
def Zke(h:Heap)(C:Addr)(rest:List Value):Heap:=(h.push { cls:=.type "tuple", data:=.seq rest.toArray }).push { cls:=.ref C,data:=.fields #[.ref h.objs.size,.none,.none,.none,.bool false,.none] }
section
variable{prog:Program}{w:World}{A:Around}{K:PySem.W.Frag}{mg:Str->Option Value}{x:Str}{C CE f:Addr}{h:Heap}{g:Array GenState}{d:Drawn}{t:Nat}{os:OsState}{R:Result->Shared->Prop}
theorem ZlR(X:K.In h)(c:XIni K mg x C CE f){rest:List Value}(hrest:rest.length<=sizeLine)
    (hq:codeAny (model prog w) (A.under (.builtin "type.__call__" ⟨.ref C::rest,[]⟩)) (.call (.ref f) ⟨.ref (h.objs.size+1)::rest,[]⟩) (PySem.W.InitBack (h.objs.size+1) R) ⟨Zke h C rest,g,d,t,os⟩) :
    codeAny (model prog w) A (.call (.ref C) ⟨rest,[]⟩) R ⟨h,g,d,t,os⟩:=by
  obtain ⟨nm,qn,N,bs,sn,sub,ab,col,dd,k0,k1,k2,k3,k5,hC⟩:=Zdh X c.own
  have T:OwnTail h bmV (.ref CE::bmV):=PySem.W.tail_of_in X c.tail
  have FV:=PySem.F.excBase_ValueError
  have f1:=tc_lookup
  have f2:=tc_bind (.ref C)
  have hT:(⟨h,g,d,t,os⟩:Shared).TypeIs (.ref C) "type" := ⟨_,hC,rfl⟩
  refine codeAny_of_tree ?_
  show wpAny _ _ (callAny (.ref C) _) _ _ _
  repeat (any_goals (first | assumption | with_reducible refine wpAny_loadPart_at hC ?_ | wp_step))
  refine ⟨rfl,codeAny_call_builtin_at (Code.quiet_builtin _ (by decide +kernel)) entry_typeCall (wpAny_check_type_call_sub hC ?_)⟩
  repeat (first | with_reducible refine wpAny_loadPart_at hC ?_ | with_reducible refine wpAny_madeBy_exc hC ?_ | wp_step)
  refine codeAny_call_builtin_code (Code.quiet_builtin _ FV.quiet) (wpAny_check_new_subT FV T hC (codeAny_exc_new_subT FV T hC ?_ hrest))
  show wpAny _ _ _ _ _ _
  have k:∀b o,h.get? b=some o->(Zke h C rest).get? b=some o:=λb o e=>Heap.get?_push_of_some _ (Heap.get?_push_of_some _ e)
  have hC1:=k _ _ hC
  have X1:K.In (Zke h C rest):=X.keeps k
  have he:(Zke h C rest).get? (h.objs.size+1)=some { cls:=.ref C,data:=.fields #[.ref h.objs.size,.none,.none,.none,.bool false,.none] }:=by unfold Zke; heap_get
  have t1:PySem.W.Looks (model prog w) (Zke h C rest) (typeOf (.ref (h.objs.size+1))) (.ref C):=(PySem.W.Looks.ld he).andThen .now
  have s1:PySem.W.Looks (model prog w) (Zke h C rest) (isInstance (.ref (h.objs.size+1)) (.ref C)) true:=t1.andThen (PySem.W.looks_mroIn X1 c.sf)
  have i1:=PySem.W.looks_findIn (M:=model prog w) X1 c.ini
  have b1:=PySem.W.bind_fn (M:=model prog w) X1 (.ref (h.objs.size+1)) c.fn
  show wpAny _ _ _ _ _ ⟨Zke h C rest,g,d,t,os⟩
  refine wpAny_bind (s1.at ?_)
  unfold callSpecial? specialOf
  dsimp only[Bool.not_true,Bool.false_eq_true,if_false]
  rw[if_neg ∅]
  refine wpAny_bind (wpAny_holding ?_)
  repeat (first | with_reducible refine wpAny_call ?_ | lk)
  refine codeAny_mono hq λr s' z=>?_
  rcases r with e | (v | _ | _ | _) <;> first | exact z | exact z.elim | skip
  obtain ⟨rfl,z⟩:=z
  exact wpAny_pure (wpAny_pure z)
theorem Znm(X:K.In h)(c:XIni K mg x C CE f){e:Addr}{oe:Obj}{vs:Array Value}{name:Str}{v:Value}{E:Value->Shared->Prop}{Q:Unit->Shared->Prop}(he:h.get? e=some oe)(hc:oe.cls = .ref C)(hn:oe.dict=none)(hd:oe.data = .fields vs)
    (hna:PySem.W.findIn K (.ref C) name=some none)
    (hq:∀h' tk,(∀b o,b≠e->h.get? b=some o->h'.get? b=some o)->h'.get? e=some { oe with dict:=some h.objs.size }->h'.Ns1 h.objs.size (λy=>if y=name then some v else none)->Q () ⟨h',g,d,tk,os⟩) :
    wpAny (model prog w) A (setAttr (.ref e) name v) Q E ⟨h,g,d,t,os⟩:=by
  obtain ⟨nm,qn,N,bs,sn,sub,ab,col,dd,k0,k1,k2,k3,k5,hC⟩:=Zdh X c.own
  have J:PySem.W.InstAt h e oe C none:=⟨he,hc,by unfold PySem.W.notCls; rw[hd],by rw[hn]; trivial⟩
  refine PySem.W.set_plain (s:=⟨h,g,d,t,os⟩) X J c.sa ?_
  have SF:=PySem.F.store_object
  have ob:PySem.W.Looks (model prog w) h (isInstance (.ref e) (.type "object")) true:=J.type.andThen (PySem.W.looks_mroIn X c.cls.ob)
  refine codeAny_call_builtin SF.slot.plain SF.entry (@PySem.W.check_slot (model prog w) _ _ ⟨h,g,d,t+1,os⟩ "object.__setattr__" "object" "__setattr__" (.ref e) [.str name t,v] [] _ SF.kind SF.split ob (SF.args (.ref e) (.str name t) v) ?_)
  rw[PySem.W.osa_eq,refuse_eq]
  refine wpAny_bind (wpAny_bind (J.type.here (s:=⟨h,g,d,t+1,os⟩) (wpAny_bind (wpAny_mroOf_exc hC ?_))))
  rw[refuseLoop_ref,refuseLoop_ref,PySem.F.store_ValueError.passes]
  refine wpAny_pure (wpAny_bind (J.type.here (s:=⟨h,g,d,t+1,os⟩) (wpAny_bind ((PySem.W.looks_findIn X hna).here (s:=⟨h,g,d,t+1,os⟩) (wpAny_bind (wpAny_pure ?_))))))
  have es:e≠h.objs.size:=Qb (Heap.lt_size he)
  have he1:(h.push { cls:=.type "dict", data:=.dict #[] }).get? e=some oe:=Heap.get?_push_of_some _ he
  repeat (first | (with_reducible refine wpAny_loadPart_at he ?_; rw[hc]) | with_reducible refine wpAny_loadPart_at hC ?_ | wp_step)
  rw[hn]
  dsimp only
  rw[if_neg (by simp[typeHasDict]),hd]
  dsimp only
  obtain ⟨hp,hhp⟩:∃hp,(h.push { cls:=.type "dict", data:=.dict #[] }).update e (λo=>{ cls:=o.cls,dict:=some h.objs.size,data:=o.data,slots:=o.slots })=hp:=⟨_,rfl⟩
  have up:∀b,b≠e->hp.get? b=(h.push { cls:=.type "dict", data:=.dict #[] }).get? b:=λb hb=>by rw[<-hhp]; exact Heap.get?_update_ne _ _ _ _ hb
  have gd:hp.get? h.objs.size=some { cls:=.type "dict", data:=.dict #[] }:=(up _ (Ne.symm es)).trans (Heap.get?_push_at rfl rfl)
  have ge:hp.get? e=some { oe with dict:=some h.objs.size }:=by
    rw[<-hhp]
    refine Heap.get?_update_self _ he1 ?_
    exact Obj.isFreed_of_fields (vs:=vs) hd
  have nd:hp.Ns h.objs.size (λ_=>none):=⟨_,#[],_,gd,rfl,(λz hz=>absurd hz (by simp)),λ_=>rfl⟩
  refine wpAny_bind (wpAny_alloc' (wpAny_bind (wpAny_update' he1 (wpAny_pure ?_))))
  show wpAny _ _ (Builtin.ObjectAttr.storeInDict h.objs.size (.str name t) name v) _ _ _
  unfold Builtin.ObjectAttr.storeInDict Builtin.ObjectAttr.newKeyGuard
  rw[hhp]
  refine wpAny_bind (wpAny_pure (wpAny_bind (wpAny_nsSet1 (Heap.Ns1.of_empty nd) λh2 n2 s2=>?_)))
  obtain ⟨oD,esD,epD,o1,o2,o3⟩:=n2.count (Within.cons name v Within.nil)
  refine wpAny_bind (wpAny_lookBehind o1 (by rw[o2]; exact pastItsLine_dict (Q0 o3 (by show 1<=sizeLine+1; decide))) ?_)
  wp_walk
  refine hq h2 _ (λb o hb q=>?_) ((s2.2 e es).trans ge) n2
  exact (s2.2 b (Qb (Heap.lt_size q))).trans ((up b hb).trans (Heap.get?_push_of_some _ q))
theorem ZlS{s:Shared}{y:Addr}{oy:Obj}{od:Option Obj}{name:Str}{v:Value}(c:XCls K C){tk:Tok}(X:K.In s.heap)(I:PySem.W.InstAt s.heap y oy C od)(hf:PySem.W.findObj K C od name=some (.value v))(hq:R (.ok (.ret v)) s) :
    codeAny (model prog w) A (.call (.builtin "BaseException.__getattribute__") ⟨[.ref y,.str name tk],[]⟩) R s:=by
  obtain ⟨hh,gg,d,t,os⟩:=s
  have M0:=I.type (M:=model prog w)
  have M1:=PySem.W.looks_find (M:=model prog w) X I hf
  have M2:PySem.W.Looks (model prog w) hh (isInstance (.ref y) (.type "BaseException")) true:=M0.andThen (PySem.W.looks_mroIn X c.be)
  refine codeAny_call_builtin F.excAttr_ValueError.ga.plain F.entry_bexc_ga ?_
  simp only[checkBuiltinCall,show builtinKind "BaseException.__getattribute__" = some .slot by decide +kernel,show splitId "BaseException.__getattribute__" = some ("BaseException", "__getattribute__") by decide +kernel]
  refine wpAny_bind (M2.at ?_)
  simp only[Bool.not_true,Bool.false_eq_true,if_false]
  refine wpAny_of_eq (F.args_bexc_ga (.ref y) (.str name tk)) ?_
  exact wpAny_bind (wpAny_pure (wpAny_bind (wpAny_pure (wpAny_bind (M0.at (wpAny_bind (M1.at (wpAny_pure hq))))))))
theorem Znn{s:Shared}{E:Value->Shared->Prop}{y:Addr}{oy:Obj}{od:Option Obj}{name:Str}{v:Value}{b:Bool}{Q:Value->Shared->Prop}(c:XCls K C)(X:K.In s.heap)(I:PySem.W.InstAt s.heap y oy C od)(hf:PySem.W.findObj K C od name=some (.value v))(hh:PySem.W.handedIn v=true)
    (hq:Q v { s with toks:=s.toks+1 }):wpAny (model prog w) A (getAttr (.ref y) name b) Q E s:=by
  have M0:=I.type (M:=model prog w)
  have M1:=PySem.W.looks_findIn (M:=model prog w) X c.ga
  have M3:=PySem.W.looks_findIn (M:=model prog w) X c.ha
  obtain ⟨hp,g,d,t,os⟩:=s
  unfold getAttr getAttrBy
  refine wpAny_bind (wpAny_mkText (wpAny_holding (wpAny_bind (M0.at (wpAny_bind (M1.at ?_))))))
  show wpAny _ _ (getAttrByItsOwn _ _ _ _ _ _) _ _ _
  unfold getAttrByItsOwn
  refine wpAny_bind (M3.at (wpAny_bind (wpAny_attempt (wpAny_holding ?_))))
  unfold callGetattribute
  rw[show (b&&onTheHeap (Value.builtin "BaseException.__getattribute__"))=false from by cases b <;> rfl,if_neg ∅]
  unfold boundAndCalled
  refine wpAny_bind (wpAny_of_eq (F.excAttr_ValueError.ga.bind (.ref y)) (wpAny_call (ZlS (s:=⟨hp,g,d,t+1,os⟩) c X I hf ?_)))
  exact PySem.W.handed_on hh hq
end
def ZfW(e C:Addr)(dd:Option Addr):HO:=.ext λh=>∃oe t,h.get? e=some oe/\oe.cls = .ref C/\oe.dict=dd/\oe.data = .fields #[.ref t,.none,.none,.none,.bool false,.none]
theorem ZhM{P:Program}{w:World}{H:Hp}{h:Heap}{e C t:Addr}{dd:Option Addr}{oe:Obj}(he:h.get? e=some oe)(hc:oe.cls = .ref C)(hd:oe.dict=dd)(hv:oe.data = .fields #[.ref t,.none,.none,.none,.bool false,.none]):ObjOk P w H h e (ZfW e C dd) :=
  ⟨⟨oe,t,he,hc,hd,hv⟩,⟨oe,he⟩,λh1 h2 ⟨o1,t1,a,b,c,d⟩ k=>⟨o1,t1,k _ a,b,c,d⟩⟩
section
variable{X:Cx}{pins:List (Addr×Obj)}{σ:St}{H:Hp}{s:Shared}{C CE f e dd:Addr}{x:Str}
theorem Inv.exc(I:Inv X pins σ H s)(rest:List Value):Inv X pins σ (upd H (s.heap.objs.size+1) (ZfW (s.heap.objs.size+1) C none)) { s with heap:=Zke s.heap C rest }:=by
  have he:(Zke s.heap C rest).get? (s.heap.objs.size+1)=some { cls:=.ref C,data:=.fields #[.ref s.heap.objs.size,.none,.none,.none,.bool false,.none] }:=by unfold Zke; heap_get
  exact I.laid (t':=s.toks) (λb o q=>Heap.get?_push_of_some _ (Heap.get?_push_of_some _ q)) (Wo _) (ZhM he rfl rfl rfl)
theorem Zno{k:Nat}{fd:FuncData}{ps:List Str}{sp:Sp}{Q:VK}{us:List Value}{vs:List V}(c:XIni X.K X.mg x C CE f)(F:FnOk X.prog X.w X.K X.mg X.base CX0 k f fd ps sp)(hr:Room (k+1) X.A)(hb:Binds X.K fd ps [])(I:Inv X pins σ H s)(r:Vals vs us)(hz:us.length<=sizeLine)
    (h:∀e,H e=none->X.s₀.heap.objs.size<=e->sp (.ref e::vs) (upd H e (ZfW e C none)) (λv H2=>v = .non/\Q (.ref e) H2) E0):wpAny (model X.prog X.w) X.A (call (.ref C) us) (EP X pins σ Q) X.xe s:=by
  have hq:=h (s.heap.objs.size+1) (I.hok.fresh (Wo _)) (Q0 I.sz (Wo _))
  have I2:=Inv.exc (C:=C) I us
  have r2:Vals (V.ref (s.heap.objs.size+1)::vs) (Value.ref (s.heap.objs.size+1)::us):=.cons rfl r
  have hl:(Value.ref (s.heap.objs.size+1)::us++([]:List Value)).length=ps.length:=by
    have e:=r2.length
    rw[F.len _ _ _ _ hq] at e
    rw[Uu]
    exact e.symm
  have hb':=hb _ (Value.ref (s.heap.objs.size+1)::us) I2.kIn hl
  rw[Uu] at hb'
  refine wpAny_call (ZlR I.kIn c hz (codeAny_mono (F.run _ X.stack _ _ ⟨Value.ref (s.heap.objs.size+1)::us,[]⟩ (Value.ref (s.heap.objs.size+1)::us) _ _ E0 (hr.make C us []) (I2.env0.make C us []) hb' r2 hq) λr s' hq'=>?_))
  cases r with
  | error e=>exact False.elim hq'
  | ok fl =>
    cases fl with
    | ret u =>
      obtain ⟨v,H',I3,rv,ev,q3⟩:=I2.after hq'
      subst ev
      exact ⟨rv,⟨V.ref (s.heap.objs.size+1),H',I3,rfl,q3⟩⟩
    | next=>exact False.elim hq'
    | brk=>exact False.elim hq'
    | cont=>exact False.elim hq'
theorem Inv.hide{od:Option Addr}(I:Inv X pins σ (upd H e (ZfW e C od)) s)(hn:H e=none)(hs:X.s₀.heap.objs.size<=e):Inv X pins σ H { s with heap:=PySem.W.hideAll s.heap [e] }:=by
  have up:∀ {b u},b≠e->upd H e (ZfW e C od) b=u->H b=u:=λhb q=>by rw[Zas hb] at q; exact q
  have ne0:∀b o,X.s₀.heap.get? b=some o->b≠e:=λb o q z=>by subst z; exact absurd (Heap.lt_size q) (U7.mpr hs)
  have hid:∀ {b o},b≠e->s.heap.get? b=some o->(PySem.W.hideAll s.heap [e]).get? b=some o:=λhb q=>PySem.W.hideAll_get _ q (λm=>hb (Q6.mp m))
  have nx:∀ {b},upd H e (ZfW e C od) b=none->b≠e:=λq z=>by subst z; rw[Zaf] at q; cases q
  have nk:∀ {b u},upd H e (ZfW e C od) b=some u->ZfW e C od≠u->b≠e:=λq d z=>by subst z; rw[Zaf] at q; exact d (Option.some.inj q)
  have ib:=I.base
  refine ⟨I.ok,I.os,I.bare,⟨λb o q n hb hx=>hid (ne0 b o q) (ib.keep b o q n hb hx),λb o q n hb hx=>?_,λb o q n hx=>up (ne0 b o q) (ib.free b o q n hx),λb o q hx=>?_,λb xs q=>?_,λb o u q=>?_,λb ps q=>?_⟩,?_,λy c q=>?_,up (nx I.free) I.free,λy c q=>up (nx (I.freeC y c q)) (I.freeC y c q),λp hp=>?_,λb u q=>?_,I.len⟩
  · obtain ⟨sl,z⟩:=ib.slot b o q n hb hx
    exact ⟨sl,hid (ne0 b o q) z⟩
  · obtain ⟨o',z⟩:=ib.there b o q hx
    exact ⟨o',hid (ne0 b o q) z⟩
  · have z:=ib.tups b xs q
    exact up (nk z (by intro y; cases y)) z
  · have z:=ib.frzs b o u q
    exact up (nk z (by intro y; cases y)) z
  · obtain ⟨m,z⟩:=ib.tbls b ps q
    exact ⟨m,up (nk z (by intro y; cases y)) z⟩
  · obtain ⟨m,⟨o,es,ep,z,r⟩,lk⟩:=I.loc
    refine ⟨m,⟨o,es,ep,hid (nx I.free) z,r⟩,λi y v a b c=>?_⟩
    obtain ⟨u,ru,l⟩:=lk i y v a b c
    refine ⟨u,ru,?_⟩
    rcases l with l | ⟨l1,cc,l2,oc,l3,l4⟩
    · exact .inl l
    · exact .inr ⟨l1,cc,l2,oc,hid (nx (I.freeC _ _ l2)) l3,l4⟩
  · obtain ⟨v0,oc,k3,k4⟩:=I.cell y c q
    exact ⟨v0,oc,hid (nx (I.freeC _ _ q)) k3,k4⟩
  · obtain ⟨a,b,c,d,g⟩:=I.pin p hp
    exact ⟨hid (nx b) a,up (nx b) b,c,d,g⟩
  · have hb:b≠e:=λz=>by subst z; rw[hn] at q; cases q
    refine (I.hok b u (by rw[Zas hb]; exact q)).stay (λc v hc z=>?_) (λc z=>up (nk z (by intro y; cases y)) z) (λc ys z=>up (nk z (by intro y; cases y)) z)
    refine hid ?_ z
    rcases hc with rfl | hc
    · exact hb
    · exact nk hc (by intro y; cases y)
end
section
variable{M:Model}{A:Around}{E:Value->Shared->Prop}{s:Shared}{P:Program}{w:World}{env:Env}{outer:List Env}{H:Hp}{L e t:Addr}{cls:Value}{dd:Option Addr}{Q:Unit->Shared->Prop}{B0:Heap}
theorem Zjc{s0:Heap}(hok:HOk P w H s0){b:Addr}{u:HO}(q:H b=some u):∃o,s0.get? b=some o:=by
  have z:=hok b u q
  cases u with
  | lst xs=>obtain ⟨_,_,_,_,z⟩:=z; exact ⟨_,z⟩
  | tup xs=>obtain ⟨_,_,_,o,z,_⟩:=z; exact ⟨_,z⟩
  | dK kvs=>obtain ⟨_,_,_,_,o,_,_,z,_⟩:=z; exact ⟨_,z⟩
  | dT kvs=>obtain ⟨_,_,_,_,o,_,_,z,_⟩:=z; exact ⟨_,z⟩
  | set S n=>obtain ⟨o,_,_,_,z,_⟩:=z; exact ⟨_,z⟩
  | ins C dx fs=>obtain ⟨_,_,_,z,_⟩:=z; exact ⟨_,z⟩
  | own y=>obtain ⟨_,z⟩:=z; exact ⟨_,z⟩
  | xd fs=>obtain ⟨_,⟨_,_,_,z,_⟩,_⟩:=z; exact ⟨_,z⟩
  | rng lo hi=>obtain ⟨_,_,_,z⟩:=z; exact ⟨_,z⟩
  | frz ob v=>obtain ⟨z,_⟩:=z; exact ⟨_,z⟩
  | tbl ps=>exact ⟨_,(show s0.get? b=some _ from z)⟩
  | met f y=>exact ⟨_,(show s0.get? b=some _ from z)⟩
  | ext φ=>obtain ⟨_,⟨_,z⟩,_⟩:=z; exact ⟨_,z⟩
theorem ZlT{s0:Heap}{oe:Obj}(hok:HOk P w H s0)(fl0:s0.FunFrames B0 (env::outer))(kp:∀b o,s0.get? b=some o->s.heap.get? b=some o)(ne:s0.get? e=none)(he:s.heap.get? e=some oe)(hc:oe.cls=cls)(hdd:oe.dict=dd)(hv:oe.data = .fields #[.ref t,.none,.none,.none,.bool false,.none])
    (hn:∀b∈frs (env::outer),H b=none) (hfr:A.frames=some (env::outer)) (hf:env.frame=some L)
    (k:∀h',Air P w (PySem.W.hideAll s0 (frs (env::outer))) (env::outer) H h' e t cls dd (rawInt L)->s0.UpToSlots h'->Q () { s with heap:=h' }):wpAny M A (noteFrame (.ref e) env) Q E s:=by
  have st0:(PySem.W.hideAll s0 (frs (env::outer))).StaysIn s0:=λb o q=>PySem.W.of_hideAll _ q
  have st:(PySem.W.hideAll s0 (frs (env::outer))).StaysIn s.heap:=λb o q=>kp b o (st0 b o q)
  have tk:∀b u,H b=some u->∃o,(PySem.W.hideAll s0 (frs (env::outer))).get? b=some o:=λb u q=>by
    obtain ⟨o,ho⟩:=Zjc hok q
    exact ⟨o,PySem.W.hideAll_get _ ho λhm=>by rw[hn b hm] at q; cases q⟩
  have nb:(PySem.W.hideAll s0 (frs (env::outer))).get? e=none:=by
    cases q:(PySem.W.hideAll s0 (frs (env::outer))).get? e with
    | none=>rfl
    | some o=>have:=st0 e o q; rw[ne] at this; cases this
  have fl1:s0.FunFrames (PySem.W.hideAll s0 (frs (env::outer))) (env::outer):=PySem.W.funFrames_hide fl0 λy hy a ha=>Ud.mpr ⟨y,hy,ha⟩
  refine ZfU hfr (ZcQ (.of_keeps kp) fl1) hf he st nb hv rfl rfl λh' st' fr tr up=>?_
  rw[hc,hdd] at tr
  exact k h' ⟨ZiA hok st0 st' tk,st',nb,fr,tr,tk⟩ ((Heap.UpToSlots.of_keeps kp).trans up)
def ZiE(X:Cx)(E:XK):Prop:=∀(pins:List (Addr×Obj)) (σ:St) (H:Hp) (s:Shared) (h':Heap) (e t:Addr) (oe:Obj) (cls:Value) (dd:Option Addr),Inv X pins σ H s->(∀b o,s.heap.get? b=some o->h'.get? b=some o)->s.heap.get? e=none->h'.get? e=some oe->oe.cls=cls->oe.dict=dd->oe.data = .fields #[.ref t,.none,.none,.none,.bool false,.none]->E cls dd H->X.xe (.ref e) { s with heap:=h' }
end
section
variable{P:Program}{w:World}{K:PySem.W.Frag}{mg:Str->Option Value}{base:Heap}{N:List Str}{qual:Str}{scope:Scope}{f:Addr}{cd:Value}{A:Around}{outer:List Env}{s:Shared}{H:Hp}{E:XK}
theorem Znp:ZiE (cxX P w K mg base N qual scope f cd A outer s H E) E:=by
  intro pins σ H1 s1 h' e t oe cls dd I kp ne he hc hdd hv q
  show wpAny (model P w) (A.deeper (envOfC qual scope s.heap.objs.size f cd)) (leaving (envOfC qual scope s.heap.objs.size f cd) (.ref e)) _ _ _
  have hfr:=I.ok.frames
  unfold leaving
  refine wpAny_bind (ZlT (s:={ s1 with heap:=h' }) I.hok I.stack kp ne he hc hdd hv I.stkFree hfr rfl λh2 a2 u2=>?_)
  refine Air.off (s:={ s1 with heap:=h2 }) a2 λh3 a3 u3=>?_
  obtain ⟨_,_,fr⟩:=a3.fr
  have fr0:s1.heap.FunFrames (PySem.W.hideAll s1.heap (frs (cxX P w K mg base N qual scope f cd A outer s H E).stack)) (cxX P w K mg base N qual scope f cd A outer s H E).stack:=PySem.W.funFrames_hide I.stack λy hy a ha=>Ud.mpr ⟨y,hy,ha⟩
  obtain ⟨u,i1,i2⟩:=ZhG I rfl rfl rfl .refl fr0 (u2.trans u3) a3.st (λb o e _ hb=>PySem.W.hideAll_get _ e hb) (λb o e hb=>⟨o,PySem.W.hideAll_get _ e hb⟩)
  exact ⟨e,t,cls,dd,H1,_,rfl,I.os,I.bare,u,⟨a3.hok,a3.st,a3.nb,fr,a3.tr,a3.tk⟩,i1,i2,q⟩
end
end L2
namespace L2
open PySem PySem.Spec PyProof.Rows
section
variable{M:Model}{A:Around}{E:Value->Shared->Prop}{env:Env}{nm qn:Str}{C N:Addr}{bs bm:List Value}{hdct:Bool}{sn:List Str}{sub:List Value}{ab:Bool}{col:Option Bool}{dd:Option Addr}{k0 k1 k2 k3 k5:Option Value}{newId:String}
theorem Zjd{s:Shared}{x:Sem Value}{Q:Flow->Shared->Prop}(hbase:bm.contains (.type "BaseException")=true) (hh:A.handled=none)
    (h:wpAny M A x (λv s1=>∃e oe,v = .ref e/\s1.heap.get? C=some (excClassObj nm qn C N bs bm hdct sn sub ab col dd k0 k1 k2 k3 k5 newId)/\s1.heap.get? e=some oe/\oe.cls = .ref C/\(∃t,oe.data = .fields #[.ref t,.none,.none,.none,.bool false,.none])/\E (.ref e) s1) E s):wpAny M A (raiseStmt env (some x) none) Q E s:=by
  have hcB:(Value.ref C::bm).contains (.type "BaseException")=true:=by rw[List.contains_cons,hbase,Bool.or_true]
  unfold raiseStmt
  refine wpAny_bind (wpAny_mono h (λv s1 h1=>?_) λ_ _ y=>y)
  obtain ⟨e,oe,rfl,hC,he,hc,⟨ta,hv⟩,hE⟩:=h1
  obtain ⟨hp,g,d,tk,os⟩:=s1
  obtain ⟨oc,od,odt,osl⟩:=oe
  dsimp only at hc hv
  subst hc hv
  repeat (first | with_reducible refine wpAny_loadPart_at he ?_ | with_reducible refine wpAny_loadPart_at hC ?_ | (with_reducible refine wpAny_isSubtype_exc hC ?_; rw[hcB]) | wp_step)
  exact wpAny_raiseNew_none hh hE
end
section
variable{X:Cx}{k:Nat}{C CE f:Addr}{fd:FuncData}{ps:List Str}{sp:Sp}{x:Str}{p pos np cpos:Pos}{e:Expr}{es:List Expr}{t:TA}
def ZmE(X:Cx)(C:Addr)(sp:Sp)(t:TA):TE:=λσ H Q=>t σ H λvs H1=>vs.length<=1000/\∀a,H1 a=none->X.s₀.heap.objs.size<=a->sp (.ref a::vs) (upd H1 a (ZfW a C none)) (λv H2=>v = .non/\Q (.ref a) H2) E0
theorem ZlU(c:XIni X.K X.mg x C CE f)(F:FnOk X.prog X.w X.K X.mg X.base CX0 k f fd ps sp)(hb:Binds X.K fd ps [])(hr:Room (k+1) X.A)(hg:Gl X x)(ha:PA X (e::es) t)(hdb:(x==("__debug__" : Str))=false:=by decide)
    (he:starEach (e::es) X.env=(false,eval e X.env)::starEach es X.env:=by rfl) (hpl:(backTo pos (starEach es X.env)).any (·.1)=false:=by rfl):PE X (.Call (.Name x p) (e::es) [] pos) (ZmE X C sp t):=by
  intro pins s σ H Q I h
  refine wpAny_Call_Name_kw (Zcm I hg c.mgx ?_ hdb)
  refine PySem.W.callWith_K (h₀:=X.base) I.ok.mod.kin c.kp (thn (ha pos pins s σ H _ I h) λus s1 ⟨vs,H1,I1,r,hz,q⟩=>⟨I1.kIn,?_⟩) he hpl
  exact Zno c F hr hb I1 r (by rw[List.nil_append,<-r.length]; exact Wv (ZcN hz)) q
theorem Zkf{E:XK}(c:XIni X.K X.mg x C CE f)(F:FnOk X.prog X.w X.K X.mg X.base CX0 k f fd ps sp)(hb:Binds X.K fd ps [])(hR:ZiE X E)(hcalm:X.calm=true)(hr:Room (k+1) X.A)(hg:Gl X x)(ha:PA X (e::es) t)(hdb:(x==("__debug__" : Str))=false:=by decide)
    (he:starEach (e::es) X.env=(false,eval e X.env)::starEach es X.env:=by rfl) (hpl:(backTo cpos (starEach es X.env)).any (·.1)=false:=by rfl) :
    PS X (.Raise (some (.Call (.Name x np) (e::es) [] cpos)) none pos) (λ_ σ H=>ZmE X C sp t σ H λv H2=>∃a od H3,v = .ref a/\X.s₀.heap.objs.size<=a/\H2=upd H3 a (ZfW a C od)/\H3 a=none/\E (.ref C) od H3):=by
  intro pins s σ H D I h
  obtain ⟨nm,qn,N,bs,sn,sub,ab,col,dd,k0,k1,k2,k3,k5,hC⟩:=Zdh (I.ok.mod.kin) c.own
  rw[arm_exec_Raise]
  refine wpAny_bind (wpAny_standAt ?_)
  show wpAny _ _ (raiseStmt X.env (some _) none) _ _ _
  refine Zjd (C:=C) (nm:=nm) (qn:=qn) (N:=N) (bs:=bs) (bm:=.ref CE::bmV) (hdct:=true) (sn:=sn) (sub:=sub) (ab:=ab) (col:=col) (dd:=dd) (k0:=k0) (k1:=k1) (k2:=k2) (k3:=k3) (k5:=k5) (newId := "ValueError.__new__") rfl (I.ok.hd hcalm) ?_
  refine wpAny_bind (wpAny_mono (ZlU (pos:=cpos) (p:=np) c F hb hr hg ha hdb he hpl pins s σ H _ I h) (λv s3 h3=>wpAny_bind (wpAny_standAt (wpAny_pure ?_))) λ_ _ y=>y)
  obtain ⟨V',H2,I3,rv,a,od,H3,rfl,hs,rfl,hn,q⟩:=h3
  cases rv
  obtain ⟨⟨oe,ta,he',hc,hd,hv⟩,_⟩:=I3.hok a _ Zaf
  refine ⟨a,oe,rfl,I3.bk _ _ hC,he',hc,⟨ta,hv⟩,?_⟩
  have hid:(PySem.W.hideAll s3.heap [a]).get? a=none:=PySem.W.hideAll_none _ (Q6.mpr rfl)
  exact hR pins σ H3 { s3 with heap:=PySem.W.hideAll s3.heap [a] } s3.heap a ta oe (.ref C) od (I3.hide hn hs) (λb o q=>PySem.W.of_hideAll _ q) hid he' hc hd hv q
end
section
variable{X:Cx}{e:Expr}{te:TE}{c1 c2:Str}{p1 p2 p3 pos:Pos}
theorem Znq{j1 j2}(he:PE X e te)(hz:(Str.empty++c1).length<=sizeLine:=by decide):PE X (.JoinedStr [.Constant (.str c1) j1 p1,.FormattedValue e (-1) none p2,.Constant (.str c2) j2 p3] pos)
    (λσ H Q=>te σ H λx H1=>∃r:Int,x = .int r/\r.natAbs.log2<1920/\(Str.empty++c1++(toString r:String)).length<=sizeLine/\(Str.empty++c1++(toString r:String)++c2).length<=sizeLine/\Q (.str (Str.empty++c1++(toString r:String)++c2)) H1):=by
  intro pins s σ H Q I h
  refine JoinedStr_many (joinParts_cons (Calls.Constant_str ⟨hz,joinParts_cons (FormattedValue_plain (thn (he pins _ σ H _ (I.tok _) h) λv s1 ⟨y,H1,I1,ry,r,ey,hl,z2,z3,q⟩=>?_))⟩))
  subst ey
  obtain ⟨tk,rfl⟩:=ry
  refine formatField_int_small hl ⟨z2,joinParts_cons (Calls.Constant_str ⟨z3,joinParts_nil ⟨.str _,H1,?_,⟨_,rfl⟩,q⟩ z3⟩)⟩
  exact I1.tok _
structure XUp (K:PySem.W.Frag) (mg:Str->Option Value) (x:Str) (CE:Addr):Prop where
  mgx:mg x=some (.ref CE)
  sg:PySem.W.specialIn K (.ref CE) "__getattribute__" = some (some (.builtin "type.__getattribute__"))
  rd:PySem.W.readsIn K CE (.type "type")=true
  fc:PySem.W.findCls K (.ref CE) (.type "type") "__init__" = some (.val (.builtin "ValueError.__init__"))
theorem Zje{x y:Str}{C CE f:Addr}{e1 e2:Expr}{t:TA}{p apos pos:Pos}{pl:Sem Bool}(u:XUp X.K X.mg x CE)(c:XIni X.K X.mg y C CE f)(hg:Gl X x)(ha:PA X [e1,e2] t)(hdb:(x==("__debug__" : Str))=false:=by decide)
    (hs:starEach [e1,e2] X.env=(false,eval e1 X.env)::starEach [e2] X.env:=by rfl) (hplain:(backTo pos (starEach [e2] X.env)).any (·.1)=false:=by rfl)
    (ht:eval (.Call (.Attribute (.Name x p) "__init__" apos) [e1,e2] [] pos) X.env=(do
      let ov ← eval (.Name x p) X.env
      standAt apos.atName
      let (f,first) ← holding [ov] (getMethod ov "__init__" pl)
      callWith pos f first (backTo pos (starEach [e1,e2] X.env)) (backToKw pos (keywordEach [] X.env))):=by rfl) :
    PE X (.Call (.Attribute (.Name x p) "__init__" apos) [e1,e2] [] pos) (λσ H Q=>t σ H λvs H1=>∃a z,vs=[.ref a,.str z]/\H1 a=some (ZfW a C none)/\Q .non H1):=by
  intro pins s σ H Q I h
  refine PySem.W.methodCall_KW (pl:=pl) (Zcm I hg u.mgx ?_ hdb) ht
  refine PySem.W.method_cls I.kIn u.sg (PySem.W.cls_value I.kIn u.rd u.fc rfl ?_)
  rw[hs]
  refine Calls.callWith_builtin (by show (false||(backTo pos (starEach [e2] X.env)).any (·.1))=false; rw[hplain] <;> rfl) (Calls.evalArgs_plain ?_)
  have hA:=ha pos pins _ σ H _ (I.tok (s.toks+1)) h
  rw[hs] at hA
  refine thn hA λus s2 ⟨vs,H2,I2,r2,a,z,ev,hH,q2⟩=>?_
  subst ev
  obtain ⟨u1,u2,rfl,r3,r4⟩:=Zi2 r2
  cases r3
  obtain ⟨nm,qn,N,bs,sn,sub,ab,col,dd,k0,k1,k2,k3,k5,hC⟩:=Zdh I2.kIn c.own
  have T:OwnTail s2.heap bmV (.ref CE::bmV):=PySem.W.tail_of_in I2.kIn c.tail
  obtain ⟨⟨oe,ta,he,hc,hd,hv⟩,_⟩:=I2.hok a _ hH
  have FV:=PySem.F.excBase_ValueError
  obtain ⟨hp,g,d,tk,os⟩:=s2
  refine wpAny_call (codeAny_call_builtin FV.init.plain FV.initEntry (wpAny_check_init_subT FV T hC he hc ?_))
  obtain ⟨oc,od,odt,osl⟩:=oe
  dsimp only at hc hd hv
  subst hc hd hv
  wp_walk
  have eH:upd H2 a (ZfW a C none)=H2:=by
    funext b
    by_cases hb:b=a
    · subst hb; rw[Zaf]; exact hH.symm
    · rw[Zas hb]
  have h1:=Heap.get?_push_of_some { cls:=.type "tuple", data:=.seq #[u2] } he
  have ga:=Heap.get?_update_self (λo=>Obj.mapFields (λx=>x.setIfInBounds 0 (Value.ref hp.objs.size)) o) h1 (Obj.isFreed_of_fields (Obj.data_mapFields rfl _))
  have I4:=I2.write (x:=a) (e:=a) (o:=ZfW a C none) (t':=tk) (by rw[hH]; exact True.intro) (.inl rfl) (h':=(hp.push { cls:=.type "tuple", data:=.seq #[u2] }).update a (λo=>Obj.mapFields (λx=>x.setIfInBounds 0 (Value.ref hp.objs.size)) o))
    (λb u hb q=>by rw[Heap.get?_update_ne _ _ _ _ hb]; exact Heap.get?_push_of_some _ q) ⟨_,ga⟩ (ZhM (t:=hp.objs.size) ga rfl rfl rfl)
  rw[eH] at I4
  exact ⟨.non,H2,I4,rfl,q2⟩
theorem Znr{x:Str}{C CE fi:Addr}{o value:Expr}{ta tv:TE}{f:Str}{pos':Pos}(c:XIni X.K X.mg x C CE fi)(hna:PySem.W.findIn X.K (.ref C) f=some none)(ha:PE X o ta)(hv:PE X value tv)(hs:swapsWith value (some (.Attribute o f pos')) pos.line X.env=pure false) :
    PS X (.Assign [.Attribute o f pos'] value pos) (λD σ H=>tv σ H λy H1=>ta σ H1 λz H2=>∃a,z = .ref a/\H2 a=some (ZfW a C none)/\∀d,H2 d=none->D.nx σ (upd (upd H2 d (.xd [(f,y)])) a (ZfW a C (some d)))):=by
  intro pins s σ H D I h
  refine plainObj_wpAny_Assign_Attribute (thn (hv pins s σ H _ I h) λu s1 ⟨y,H1,I1,ry,q⟩=>thn (ha pins s1 σ H1 _ I1 q) λov s2 ⟨z,H2,I2,rz,a,ez,hH,q2⟩=>?_) hs
  subst ez
  obtain rfl:ov=Value.ref a:=rz
  obtain ⟨⟨oe,ta',he,hc,hd,hv'⟩,_⟩:=I2.hok a _ hH
  obtain ⟨hp,g,dr,tk,os⟩:=s2
  refine Znm I2.kIn c he hc hd hv' hna λh2 tk2 kp ge nd=>?_
  have nD:H2 hp.objs.size=none:=I2.hok.fresh (Q4 _)
  have nad:a≠hp.objs.size:=Qb (Heap.lt_size he)
  have I3:Inv X pins σ (upd (upd H2 hp.objs.size (.xd [(f,y)])) a (ZfW a C (some hp.objs.size))) ⟨h2,g,dr,tk2,os⟩:=by
    have na:∀ {b u},H2 b=u->some (ZfW a C none)≠u->b≠a:=λq d z=>by subst z; exact d (hH.symm.trans q)
    have nd':∀ {b u},H2 b=some u->b≠hp.objs.size:=λq z=>by subst z; rw[nD] at q; cases q
    have to:∀ {b u},H2 b=u->b≠a->b≠hp.objs.size->upd (upd H2 hp.objs.size (.xd [(f,y)])) a (ZfW a C (some hp.objs.size)) b=u:=λq n1 n2=>by rw[Zas n1,Zas n2]; exact q
    have nh:∀ {b o},hp.get? b=some o->b≠hp.objs.size:=λq=>Qb (Heap.lt_size q)
    refine I2.un ⟨λb o q n _ _=>kp b o (na n (by intro z; cases z)) q,λb o q n _ _=>⟨o.slots,kp b o (na n (by intro z; cases z)) q⟩,λb o q n _=>to n (na n (by intro z; cases z)) (nh q),λb o q _=>?_,λb xs q=>to q (na q (by intro z; cases z)) (nd' q),λb o v q=>to q (na q (by intro z; cases z)) (nd' q),λb ps q=>⟨#[],by rw[Array.append_empty]; exact to q (na q (by intro z; cases z)) (nd' q)⟩⟩ λb v q=>?_
    · by_cases hb:b=a
      · subst hb; exact ⟨_,ge⟩
      · exact ⟨o,kp b o hb q⟩
    · by_cases hb:b=a
      · subst hb
        rw[Zaf] at q
        cases q
        exact ZhM ge hc rfl hv'
      · rw[Zas hb] at q
        by_cases hb2:b=hp.objs.size
        · subst hb2
          rw[Zaf] at q
          cases q
          refine ⟨_,nd,λgg=>?_⟩
          by_cases e:gg=f
          · subst e
            rw[if_pos rfl]
            have:([(gg,y)]:List (Str×V)).lookup gg=some y:=by simp[List.lookup]
            rw[this]
            exact ry
          · rw[if_neg e]
            have:([(f,y)]:List (Str×V)).lookup gg=none:=by simp[List.lookup,beq_eq_false_iff_ne.mpr e]
            rw[this]
            trivial
        · rw[Zas hb2] at q
          refine (I2.hok b v q).stay (λcc w' hcc z=>kp cc w' ?_ z) (λcc z=>to z (na z (by intro y; cases y)) (nd' z)) (λcc ys z=>to z (na z (by intro y; cases y)) (nd' z))
          rcases hcc with rfl | hcc
          · exact hb
          · exact na hcc (by intro y; cases y)
  exact ⟨σ,_,I3,q2 _ nD⟩
theorem Zkg{C:Addr}{o:Expr}{to:TE}{f:Str}(c:XCls X.K C)(hna:PySem.W.findIn X.K (.ref C) f=some none)(ho:PE X o to)(hb:attributeBase o f X.env (eval o X.env)=eval o X.env) :
    PE X (.Attribute o f pos) (λσ H Q=>to σ H λz H1=>∃a d fs v,z = .ref a/\H1 a=some (Zj8 a C (some d))/\H1 d=some (.xd fs)/\fs.lookup f=some v/\Q v H1):=by
  intro pins s σ H Q I h
  refine ZjN hb (thn (ho pins s σ H _ I h) λu s1 ⟨z,H1,I1,rz,a,d,fs,v,ez,hH,hD,l,q⟩=>?_)
  subst ez
  obtain rfl:u=Value.ref a:=rz
  obtain ⟨⟨oe,vs,he,hc,hd,hv⟩,_⟩:=I1.hok a _ hH
  obtain ⟨mA,nn,r⟩:=I1.hok d _ hD
  obtain ⟨u',hu,ru⟩:=RelO.some_of (v:=v) (o:=mA f) (by rw[<-l]; exact r f)
  obtain ⟨od,hod,hl⟩:=ZeV nn
  have J:PySem.W.InstAt s1.heap a oe C (some od):=⟨he,hc,by unfold PySem.W.notCls; rw[hv],by rw[hd]; exact hod⟩
  exact Znn c I1.kIn J (PySem.W.findObj_own c.hd hna rfl (by rw[hl,hu])) (ZgV ru) ⟨v,H1,I1.tok _,ru,q⟩
end
end L2
namespace L2
open PySem PySem.Spec PyProof.Rows
section
variable{X:Cx}{e1:Expr}{ta:TA}{p p2 pos pos2:Pos}
end
end L2
namespace L2
open PySem PySem.Spec PyProof.Rows
section
variable{X:Cx}
theorem ZeA{C:Addr}(c:XCls X.K C):CallR X (.builtin "isinstance") (λxs H Q=>∃e d fs y b,xs=[.ref e,y]/\H e=some (Zj8 e C (some d))/\H d=some (.xd fs)/\Zor X.K H (.ref C) y b/\Q (.bl b) H):=by
  intro pins s σ H xs us Q I r h
  obtain ⟨e,d,fs,y,b,rfl,he,hD,ask,q⟩:=h
  obtain ⟨u,w',rfl,r1,r2⟩:=Zi2 r
  have fin:∀tk,EP X pins σ Q (.bool b) { s with toks:=tk }:=λtk=>⟨.bl b,H,I.tok _,rfl,q⟩
  cases (show u=Value.ref e from r1)
  obtain ⟨⟨oe,vs,a1,a2,a3,a4⟩,_⟩:=I.hok e _ he
  obtain ⟨mA,nn,_⟩:=I.hok d _ hD
  obtain ⟨od,hod,_⟩:=ZeV nn
  obtain ⟨G,Z,g,hb⟩:∃G:Heap->Prop,PySem.W.KitX X.K (.ref e) (.ref C) G/\G s.heap/\(Value.ref e) ≠ .builtin "__main__.__loader__#opaque" := by
    refine ⟨_,Ziz c,⟨oe,some od,a1,a2,?_,?_⟩,λz=>nomatch z⟩
    · unfold PySem.W.notCls; rw[a4]
    · rw[a3]; exact hod
  cases ask with
  | ty k=>cases (show w'=Value.type _ from r2); exact PySem.W.kia_one Z I.kIn g k hb fin
  | ref k=>cases (show w'=Value.ref _ from r2); exact PySem.W.kia_one Z I.kIn g k hb fin
  | @tup tp cs b ht k =>
    cases (show w'=Value.ref tp from r2)
    obtain ⟨_,its,rv,o,h1,h2,n,h3⟩:=(show ObjOk X.prog X.w H s.heap tp (.tup (cs.map V.ref)) from I.hok tp _ ht)
    obtain ⟨oc,od,odt,osl⟩:=o
    dsimp only at h2 h3
    subst h2 h3
    exact PySem.W.kia_tup Z I.kIn g h1 (by rw[Ze4 rv]; exact k) hb fin
end
end L2
namespace L2
open PySem PySem.Spec PyProof.Rows
section
variable{X:Cx}
def Zns:V->List V->Hp->VK->Prop:=λx vs H Q=>∃l xs y,∃k:Nat,x = .ref l/\vs=[.int (k:Int),y]/\H l=some (.lst xs)/\k<=xs.length/\xs.length<1000/\Q .non (upd H l (.lst (xs.take k++y::xs.drop k)))
theorem Zkh:MtM X "list.insert" Zns:=by
  intro pins s σ H x vs v us Q I rx rv h
  obtain ⟨l,xs,y,k,rfl,rfl,hH,hk,hl,q⟩:=h
  cases rx
  obtain ⟨u,u2,rfl,ru,ru2⟩:=Zi2 rv
  obtain ⟨t,rfl⟩:=ru
  obtain ⟨z,its,n,r,hl',e⟩:=I.lstM hH
  have big:(1001:Nat)<=sizeLine:=by decide
  have fit:¬(!Builtin.List.listFitsIndex (k:Int))=true:=by
    have:Builtin.List.listFitsIndex (k:Int)=true:=by
      unfold Builtin.List.listFitsIndex
      rw[Uj]
      exact ⟨decide_eq_true ⋯,decide_eq_true ⋯⟩
    rw[this]
    exact Qo
  have sz:its.toArray.size<=sizeLine:=by rw[Qh]; omega
  generalize hx:(k:Int)=x at *
  have mt:=@PySem.AutoSeq1.list_insert_list_int_val_1 l its.toArray n x t u2 fit sz
  refine call_meets PySem.F.slot_list_insert ⟨_,e,rfl⟩ PySem.F.entry_list_insert (PySem.F.args_list_insert_3 (.ref l) (.int x t) u2) mt ⟨e,?_⟩
  refine ⟨.non,_,I.lset (its':=its.take k++u2::its.drop k) hH e ?_ ((r.take k).append (.cons ru2 (r.drop k))) ?_,rfl,q⟩
  · dsimp only
    rw[<-hx,if_neg ⋯,Q7,Qh,Nat.min_eq_left ⋯]
    exact PySem.W.kl_ins_eq its k u2
  · rw[Qd,U3,Wp,List.length_drop]
    omega
end
end L2
namespace My
open PySem L2 PyProof.Rows
def top(i:Nat):Stmt:=PySem.Challenge.pw_turnframe_k71_power.main.body.getD i (.Pass ⟨0,0,0,0⟩)
abbrev Zay:Stmt:=Za1 (top 7) 0
abbrev Zdx:Stmt:=top 12
abbrev Zct:Stmt:=top 13
abbrev Zd3:Stmt:=top 14
abbrev Zki:Stmt:=top 15
abbrev Zdy:Stmt:=top 16
abbrev Zf8:Stmt:=top 17
abbrev ZcS:Stmt:=top 18
abbrev ZeI:Stmt:=top 19
abbrev Zd4:Stmt:=top 20
abbrev Zdz:Stmt:=top 21
abbrev Zcu:Stmt:=top 22
abbrev Zcb:Stmt:=top 23
abbrev Zd5:Stmt:=top 26
abbrev Ze7:Stmt:=top 27
abbrev Zf9:Stmt:=top 28
abbrev ZcT:Stmt:=top 29
abbrev Zd6:Stmt:=top 30
abbrev Zd7:Stmt:=top 32
abbrev Ze8:Stmt:=top 33
abbrev ZdA:Stmt:=top 34
abbrev Zkj:Stmt:=top 35
abbrev Ze9:Stmt:=top 37
abbrev Zkk:Stmt:=top 38
abbrev Zcc:Stmt:=top 39
abbrev Zcd:Stmt:=top 40
abbrev Zce:Stmt:=top 41
abbrev Zfa:Stmt:=top 42
abbrev ZhN:Stmt:=top 43
abbrev Zfb:Stmt:=top 45
abbrev Zcv:Stmt:=top 47
abbrev Zga:Stmt:=top 48
abbrev Za9:Stmt:=Za1 (top 50) 2
abbrev ZaO:Stmt:=Za1 (top 51) 0
abbrev ZbG:Stmt:=Za1 (top 51) 1
abbrev Zbr:Stmt:=Za1 (top 51) 2
abbrev Zbs:Stmt:=Za1 (top 51) 3
abbrev ZbH:Stmt:=Za1 (top 51) 4
abbrev ZaJ:Stmt:=Za1 (top 51) 5
abbrev ZaT:Stmt:=Za1 (top 51) 6
abbrev Za7:Stmt:=Za1 (top 51) 8
abbrev ZbI:Stmt:=Za1 (top 52) 0
abbrev Zbb:Stmt:=Za1 (top 52) 1
abbrev ZcU:Stmt:=Za1 (top 52) 2
abbrev Zcw:Stmt:=Za1 (top 52) 3
abbrev Zcx:Stmt:=Za1 (top 52) 4
abbrev ZcV:Stmt:=Za1 (top 52) 5
abbrev ZaW:Stmt:=Za1 (top 52) 6
abbrev Zbt:Stmt:=Za1 (top 52) 7
abbrev Zfc:Stmt:=top 54
abbrev ZdB:Stmt:=top 55
abbrev ZcW:Stmt:=top 56
abbrev Zfd:Stmt:=top 57
abbrev Zgb:Stmt:=top 58
abbrev Zgc:Stmt:=top 59
abbrev Zd8:Stmt:=top 60
abbrev Zgd:Stmt:=top 61
abbrev Zfe:Stmt:=top 62
abbrev Zge:Stmt:=top 63
abbrev Zff:Stmt:=top 64
abbrev Zgf:Stmt:=top 65
abbrev ZcX:Stmt:=top 66
abbrev Zfg:Stmt:=top 67
abbrev ZdC:Stmt:=top 68
abbrev Zgg:Stmt:=top 69
abbrev Zgh:Stmt:=top 70
abbrev Zd9:Stmt:=top 71
abbrev ZcY:Stmt:=top 72
abbrev Zfh:Stmt:=top 73
abbrev Zea:Stmt:=top 74
abbrev Zcf:Stmt:=top 75
abbrev Zgi:Stmt:=top 76
abbrev Znt:Stmt:=top 77
structure Nm (mg:Str->Option Value):Prop where
  abs:mg "abs" = none
  isinstance:mg "isinstance" = none
  int:mg "int" = none
  bool:mg "bool" = none
  tuple:mg "tuple" = none
  list:mg "list" = none
  len:mg "len" = none
  range:mg "range" = none
  PB:∃t,mg "PRIME_BOUND" = some (.int 1000000 t)
theorem nm_mk{mg:Str->Option Value}{v:Value}(h1:mg "PRIME_BOUND" = some v) (h2:∃t,v = .int 1000000 t) (a1:mg "abs" = none) (a2:mg "isinstance" = none) (a3:mg "int" = none) (a4:mg "bool" = none) (a5:mg "tuple" = none) (a6:mg "list" = none) (a7:mg "len" = none) (a8:mg "range" = none):Nm mg :=
  ⟨a1,a2,a3,a4,a5,a6,a7,a8,let ⟨t,e⟩:=h2; ⟨t,by rw[h1,e]⟩⟩
structure Kd (K:PySem.W.Frag) (mg:Str->Option Value) (CF CR:Addr):Prop where
  clF:Cls K CF
  clR:Cls K CR
  nP:NoAttr K CR "prime"
  mkF:Mk0 K CF
  mgF:mg "Fractions" = some (.ref CF)
  mgR:mg "Rests" = some (.ref CR)
def fsR(p:Int):List (Str×V):=ZgU "prime" (.int p) []
theorem ZbT(p:Int):(fsR p).lookup ("prime" : Str)=some (.int p):=by
  unfold fsR
  rw[Zco,if_pos rfl]
theorem Zds(p:Int){m:Str}(h:¬m = "prime"):(fsR p).lookup m=none:=by
  unfold fsR
  rw[Zco,if_neg h]
  rfl
structure Fc (a b:Int):Prop where
  pos:0<b
  cop:Int.gcd a b=1
def FrA(CF:Addr)(H:Hp)(a:Addr):Prop:=∃dx,H a=some (.ins CF dx [])
theorem Zkl{b:Int}(h:0<b):0<b.natAbs:=Ug (Int.natAbs_ne_zero.mpr (Ul h))
inductive ZaU (vs:List V) (H:Hp) (Q:VK) (zE:XK):Prop
  | mk (a b:Int) (_:vs=[.int a,.int b]) (_:Q (.int (Int.gcd a b)) H):ZaU vs H Q zE
section
variable{P:Program}{w:World}{K:PySem.W.Frag}{mg:Str->Option Value}{base:Heap}
theorem sc_divisor:FnScope ["one", "other", "rest"] ["one", "other"] (Zag Ze7):=‹2›
theorem Zjf(h:Here K mg "divisor" Ze7) (T:Nm mg):Has P w K mg base "divisor" 1 ["one", "other"] ZaU:=by
  refine h.has (λf fd F=>F.binds λ_ _ _ _ _ _ us hl=>by obtain ⟨_,_,rfl⟩:=ZdM hl; exact rfl) λf fd F=>F.ok sc_divisor (λvs H Q E h=>?_) (λcdv A outer s H vs Q E hr h=>?_)
  · obtain ⟨a,b,rfl,_⟩:=h
    rfl
  obtain ⟨x,y,rfl,k⟩:=h
  have nd:=sc_divisor.nd
  refine ⟨_,(Zab (Zb3 PassesOwn.never (Zaq Zdv (pv 1) Zad (Zap _)) (Zab (Zak (i:=2) nd rfl (Or.inl rfl) (Zal ZaS (pv 0) (pv 1)))
      (Zab (Zak (i:=0) nd rfl (Or.inl rfl) (pv 1))
      (Zae (Zak (i:=1) nd rfl (Or.inl rfl) (pv 2))))))
    (Zae (Zaj (Zam ZeE (by rfl) T.abs boot_abs (Zaa (pv 0) Zac))))),?_⟩
  refine ⟨λm σ H'=>∃(a b:Int) (r:Option V),m=b.natAbs/\σ=[some (.int a),some (.int b),r]/\H'=H/\Int.gcd a b=Int.gcd x y,⟨_,x,y,none,rfl,rfl,rfl,rfl⟩,?_⟩
  rintro m σ H' ⟨a,b,r,rfl,rfl,rfl,g⟩
  refine ⟨_,rfl,rfl,_,rfl,?_⟩
  refine ZcO (λhb=>⟨_,λ_ _ h=>h,?_⟩) (λhb=>?_)
  · refine ⟨_,rfl,_,rfl,_,_,rfl,rfl,hb,_,rfl,_,rfl,?_⟩
    exact ⟨_,M1.fmod_lt a hb,b,a.fmod b,_,rfl,rfl,rfl,by rw[M1.fmod_gcd]; exact g⟩
  · refine ⟨_,rfl,_,rfl,?_⟩
    subst hb
    rw[<-M1.gcd_zero' a,g]
    exact k
end
section
variable{P:Program}{w:World}{K:PySem.W.Frag}{mg:Str->Option Value}{base:Heap}
theorem sc_l_divisor:FnScope ["_law_one", "_law_other"] ["_law_one", "_law_other"] (Zag ZdB):=‹2›
theorem Zhc(h:Here K mg "_law_divisor" ZdB) (T:Nm mg):Has P w K mg base "_law_divisor" 1 ["_law_one", "_law_other"] ZaU:=by
  refine h.has (λf fd F=>F.binds λ_ _ _ _ _ _ us hl=>by obtain ⟨_,_,rfl⟩:=ZdM hl; exact rfl) λf fd F=>F.ok sc_l_divisor (λvs H Q E h=>?_) (λcdv A outer s H vs Q E hr h=>?_)
  · obtain ⟨a,b,rfl,_⟩:=h
    rfl
  obtain ⟨x,y,rfl,k⟩:=h
  have nd:=sc_l_divisor.nd
  refine ⟨_,(Zab (Zb3 PassesOwn.never (Zaq Zdv (pv 1) Zad (Zap _)) (Zae (Zoa (i:=0) (j:=1) rfl nd rfl rfl ∅ rfl rfl (Zaa (pv 1) (Zaa (Zal ZaS (pv 0) (pv 1)) Zac)) rfl)))
    (Zae (Zaj (Zam ZeE (by rfl) T.abs boot_abs (Zaa (pv 0) Zac))))),?_⟩
  refine ⟨λm σ H'=>∃(a b:Int),m=b.natAbs/\σ=[some (.int a),some (.int b)]/\H'=H/\Int.gcd a b=Int.gcd x y,⟨_,x,y,rfl,rfl,rfl,rfl⟩,?_⟩
  rintro m σ H' ⟨a,b,rfl,rfl,rfl,g⟩
  refine ⟨_,rfl,rfl,_,rfl,?_⟩
  refine ZcO (λhb=>⟨_,λ_ _ h=>h,?_⟩) (λhb=>?_)
  · refine ⟨_,rfl,_,rfl,_,rfl,_,_,rfl,rfl,hb,_,_,rfl,?_⟩
    exact ⟨_,M1.fmod_lt a hb,b,a.fmod b,rfl,rfl,rfl,by rw[M1.fmod_gcd]; exact g⟩
  · refine ⟨_,rfl,_,rfl,?_⟩
    subst hb
    rw[<-M1.gcd_zero' a,g]
    exact k
end
inductive Zcy (vs:List V) (H:Hp) (Q:VK) (zE:XK):Prop
  | mk (i:Int) (_:vs=[.int i]) (_:Q (.bl true) H):Zcy vs H Q zE
section
variable{P:Program}{w:World}{K:PySem.W.Frag}{mg:Str->Option Value}{base:Heap}
theorem ZhO:FnScope ["thing"] ["thing"] (Zag Zd5):=‹2›
theorem ZhP(h:Here K mg "is_whole" Zd5) (T:Nm mg):Has P w K mg base "is_whole" 1 ["thing"] Zcy:=by
  refine h.has (λf fd F=>F.binds λ_ _ _ _ _ _ us hl=>by obtain ⟨_,rfl⟩:=Zlp hl; exact rfl) λf fd F=>F.ok ZhO (λvs H Q E h=>?_) (λcdv A outer s H vs Q E hr h=>?_)
  · obtain ⟨_,rfl,_⟩:=h
    rfl
  obtain ⟨i,rfl,k⟩:=h
  refine ⟨_,(Zae (Zaj (ZbA (Zam Zcp (by rfl) T.isinstance boot_isinstance (Zaa (pv 0) (Zaa (Zg4 (by rfl) T.int boot_int) Zac))) (Zb2 (ZjF (Zam Zcp (by rfl) T.isinstance boot_isinstance (Zaa (pv 0) (Zaa (Zg4 (by rfl) T.bool boot_bool) Zac)))))))),?_⟩
  refine ⟨_,rfl,_,_,_,_,rfl,.int i,ZdO K _,_,rfl,?_⟩
  refine ZfG ?_
  exact ⟨_,rfl,_,_,_,_,rfl,.int i,Zev K,_,rfl,k⟩
end
section
variable{P:Program}{w:World}{K:PySem.W.Frag}{mg:Str->Option Value}{base:Heap}
theorem Zjg:FnScope ["_law_found"] ["_law_found"] (Zag Zfc):=‹2›
theorem Zjh(h:Here K mg "_law_whole" Zfc) (T:Nm mg):Has P w K mg base "_law_whole" 1 ["_law_found"] Zcy:=by
  refine h.has (λf fd F=>F.binds λ_ _ _ _ _ _ us hl=>by obtain ⟨_,rfl⟩:=Zlp hl; exact rfl) λf fd F=>F.ok Zjg (λvs H Q E h=>?_) (λcdv A outer s H vs Q E hr h=>?_)
  · obtain ⟨_,rfl,_⟩:=h
    rfl
  obtain ⟨i,rfl,k⟩:=h
  refine ⟨_,(Zae (Zaj (ZbA (Zam Zcp (by rfl) T.isinstance boot_isinstance (Zaa (pv 0) (Zaa (Zg4 (by rfl) T.int boot_int) Zac))) (Zb2 (ZjF (Zam Zcp (by rfl) T.isinstance boot_isinstance (Zaa (pv 0) (Zaa (Zg4 (by rfl) T.bool boot_bool) Zac)))))))),?_⟩
  refine ⟨_,rfl,_,_,_,_,rfl,.int i,ZdO K _,_,rfl,?_⟩
  refine ZfG ?_
  exact ⟨_,rfl,_,_,_,_,rfl,.int i,Zev K,_,rfl,k⟩
end
inductive ZdS (vs:List V) (H:Hp) (Q:VK) (zE:XK):Prop
  | mk (n:Int) (_:vs=[.int n]) (_:n<1000000) (_:(M2.Prm n->Q (.bl true) H)) (_:(¬M2.Prm n->Q (.bl false) H)):ZdS vs H Q zE
section
variable{P:Program}{w:World}{K:PySem.W.Frag}{mg:Str->Option Value}{base:Heap}
theorem sc_is_prime:FnScope ["number", "trial"] ["number"] (Zag Zd6):=‹2›
theorem ZhQ(h:Here K mg "is_prime" Zd6) (T:Nm mg):Has P w K mg base "is_prime" 1 ["number"] ZdS:=by
  refine h.has (λf fd F=>F.binds λ_ _ _ _ _ _ us hl=>by obtain ⟨_,rfl⟩:=Zlp hl; exact rfl) λf fd F=>F.ok sc_is_prime (λvs H Q E h=>?_) (λcdv A outer s H vs Q E hr h=>?_)
  · obtain ⟨_,rfl,_⟩:=h
    rfl
  obtain ⟨n,rfl,hn,kt,kf⟩:=h
  have nd:=sc_is_prime.nd
  obtain ⟨tk,hPB⟩:=T.PB
  refine ⟨_,(Zab (ZaC (Zhx (Zaq Zca (pv 0) Zad (Zap _)) (ZeR (Zaq Zod (pv 0) (Za5 (v:=.int 1000000) (by rfl) hPB ⟨tk,rfl⟩) (Zap _)))).pt (Zae (Zaj ZcL)) Zat)
    (Zab (ZaC (Zaq Zbh (Zal Zbp (pv 0) Zad) Zad (Zap _)) (Zae (Zaj (ZaM Zbh (pv 0) Zad (Zap _)))) Zat)
    (Zab (Zak (i:=1) nd rfl (Or.inl rfl) Zad)
    (Zab (Zb3 PassesOwn.never (Zaq Zlw (Zal ZaB (pv 1) (pv 1)) (pv 0) (Zap _)) (Zab (ZaC (Zaq Zbh (Zal ZaS (pv 0) (pv 1)) Zad (Zap _)) (Zae (Zaj ZcL)) Zat)
      (Zae (Zio (i:=1) nd rfl (Or.inl rfl) Zad Zmv))))
    (Zae (Zaj ZcL)))))),?_⟩
  refine ⟨_,rfl,_,_,rfl,rfl,_,rfl,?_⟩
  refine Za3 (λh=>ZfG (kf λp=>by have:=p.1; omega)) (λh2=>?_)
  refine ⟨_,rfl,_,_,rfl,rfl,_,rfl,?_⟩
  refine Za3 (λh=>absurd h ⋯) (λ_=>?_)
  refine ⟨_,rfl,_,_,rfl,rfl,(by show (0:Int)<_; decide),rfl,_,rfl,?_⟩
  refine ZbC (λe=>?_) (λe=>?_)
  · refine ⟨_,rfl,rfl,?_⟩
    rw[ZhC]
    have iff:=M2.prm_even (n:=n) ⋯ e
    by_cases hp:n=2
    · rw[decide_eq_true hp]; exact kt (iff.mpr hp)
    · rw[decide_eq_false hp]; exact kf λz=>hp (iff.mp z)
  refine ⟨λm σ H'=>∃t:Int,m=(n+2-t).toNat/\σ=[some (.int n),some (.int t)]/\H'=H/\3<=t/\t%2=1/\t<=n+2/\M2.No n t,⟨_,3,rfl,rfl,rfl,⋯,⋯,⋯,M2.No.odd e⟩,?_⟩
  rintro m σ H' ⟨t,rfl,rfl,rfl,h3,ho,hle,no⟩
  have tf:t.natAbs<=10^150:=Q0 (show t.natAbs<=1000002 by omega) ∅
  refine ⟨_,rfl,_,rfl,_,_,rfl,rfl,(ZbF tf tf),_,rfl,_,_,rfl,rfl,_,rfl,?_⟩
  refine Za3 (λhl=>⟨_,λ_ _ h=>h,?_⟩) (λhl=>?_)
  · refine ⟨_,rfl,_,rfl,_,_,rfl,rfl,(show t≠0 by omega),rfl,_,rfl,?_⟩
    have lt:=M2.le_of_sq ⋯ hl
    refine ZbC (λz=>kf (M2.found ⋯ hl ((M2.fmod_dvd ⋯).mp z))) (λz=>?_)
    refine ⟨_,rfl,_,_,rfl,rfl,?_⟩
    exact ⟨_,⋯,t+2,rfl,rfl,rfl,⋯,⋯,⋯,no.next e ho λd=>z ((M2.fmod_dvd ⋯).mpr d)⟩
  · exact kt (no.done ⋯ ⋯ hl)
end
section
variable{P:Program}{w:World}{K:PySem.W.Frag}{mg:Str->Option Value}{base:Heap}
theorem sc_l_is_prime:FnScope ["_law_number_here", "_law_by"] ["_law_number_here"] (Zag ZcW):=‹2›
theorem Zgj(h:Here K mg "_law_is_prime" ZcW):Has P w K mg base "_law_is_prime" 1 ["_law_number_here"] ZdS:=by
  refine h.has (λf fd F=>F.binds λ_ _ _ _ _ _ us hl=>by obtain ⟨_,rfl⟩:=Zlp hl; exact rfl) λf fd F=>F.ok sc_l_is_prime (λvs H Q E h=>?_) (λcdv A outer s H vs Q E hr h=>?_)
  · obtain ⟨_,rfl,_⟩:=h
    rfl
  obtain ⟨n,rfl,hn,kt,kf⟩:=h
  have nd:=sc_l_is_prime.nd
  refine ⟨_,(Zab (Zak (i:=1) nd rfl (Or.inl rfl) Zad)
    (Zab (Zb3 PassesOwn.never (Zaq Zlw (Zal ZaB (pv 1) (pv 1)) (pv 0) (Zap _)) (Zab (ZaC (Zaq Zbh (Zal ZaS (pv 0) (pv 1)) Zad (Zap _)) (Zae (Zaj ZcL)) Zat)
      (Zae (Zak (i:=1) nd rfl (Or.inl rfl) (Zal Za6 (pv 1) Zad)))))
    (Zae (Zaj (ZaM Zf1 (pv 0) Zad (Zap _)))))),?_⟩
  refine ⟨λm σ H'=>∃t:Int,m=(n+2-t).toNat/\σ=[some (.int n),some (.int t)]/\H'=H/\2<=t/\(t<=2\/t<=n)/\M2.No n t,⟨_,2,rfl,rfl,rfl,⋯,⋯,M2.No.two⟩,?_⟩
  rintro m σ H' ⟨t,rfl,rfl,rfl,h3,hle,no⟩
  have tf:t.natAbs<=10^150:=Q0 (show t.natAbs<=1000002 by omega) ∅
  refine ⟨_,rfl,_,rfl,_,_,rfl,rfl,(ZbF tf tf),_,rfl,_,_,rfl,rfl,_,rfl,?_⟩
  refine Za3 (λhl=>⟨_,λ_ _ h=>h,?_⟩) (λhl=>?_)
  · refine ⟨_,rfl,_,rfl,_,_,rfl,rfl,(show t≠0 by omega),rfl,_,rfl,?_⟩
    have lt:=M2.le_of_sq ⋯ hl
    refine ZbC (λz=>kf (M2.found ⋯ hl ((M2.fmod_dvd ⋯).mp z))) (λz=>?_)
    refine ⟨_,rfl,_,_,rfl,rfl,?_⟩
    exact ⟨_,⋯,t+1,rfl,rfl,rfl,⋯,⋯,no.one λd=>z ((M2.fmod_dvd ⋯).mpr d)⟩
  · refine ⟨_,rfl,_,_,rfl,rfl,?_⟩
    show Q (V.bl (decide (1<n))) _
    by_cases h2:1<n
    · rw[decide_eq_true h2]; exact kt (no.done ⋯ ⋯ hl)
    · rw[decide_eq_false h2]; exact kf λp=>by have:=p.1; omega
end
inductive Zcz (K:PySem.W.Frag) (vs:List V) (H:Hp) (Q:VK) (zE:XK):Prop
  | mk (p r:Addr) (q a0 a1 a2 b0 b1 b2:Int) (_:vs=[.ref p,.int q,.ref r]) (_:SqT K H p [.int a0,.int a1,.int a2]) (_:SqT K H r [.int b0,.int b1,.int b2]) (_:IntMulOk q b0) (_:IntMulOk q b1) (_:IntMulOk q b2) (_:∀t,H t=none->Q (.ref t) (upd H t (.tup [.int (a0-q*b0),.int (a1-q*b1),.int (a2-q*b2)]))):Zcz K vs H Q zE
section
variable{P:Program}{w:World}{K:PySem.W.Frag}{mg:Str->Option Value}{base:Heap}
theorem Zgk:FnScope ["some", "factor", "others"] ["some", "factor", "others"] (Zag ZcT):=‹2›
theorem Zgl(h:Here K mg "less_times" ZcT):Has P w K mg base "less_times" 1 ["some", "factor", "others"] (Zcz K):=by
  refine h.has (λf fd F=>F.binds λ_ _ _ _ _ _ us hl=>by obtain ⟨_,_,_,rfl⟩:=Zdq hl; exact rfl) λf fd F=>F.ok Zgk (λvs H Q E h=>?_) (λcdv A outer s H vs Q E hr h=>?_)
  · obtain ⟨_,_,_,_,_,_,_,_,_,rfl,_⟩:=h
    rfl
  obtain ⟨p,r,q,a0,a1,a2,b0,b1,b2,rfl,hp,hq,m0,m1,m2,k⟩:=h
  refine ⟨_,(Zae (Zaj (ZaY (Zaa (Zal Zb4 (Zar Zan (pv 0) Zad (λ_ _=>rfl)) (Zal ZaB (pv 1) (Zar Zan (pv 2) Zad (λ_ _=>rfl)))) (Zaa (Zal Zb4 (Zar Zan (pv 0) Zad (λ_ _=>rfl)) (Zal ZaB (pv 1) (Zar Zan (pv 2) Zad (λ_ _=>rfl)))) (Zaa (Zal Zb4 (Zar Zan (pv 0) Zad (λ_ _=>rfl)) (Zal ZaB (pv 1) (Zar Zan (pv 2) Zad (λ_ _=>rfl)))) Zac)))))),?_⟩
  refine ⟨_,rfl,_,_,_,_,rfl,rfl,hp,rfl,_,rfl,_,rfl,_,_,_,_,rfl,rfl,hq,rfl,_,_,rfl,rfl,m0,_,_,rfl,rfl,?_⟩
  refine ⟨_,rfl,_,_,_,_,rfl,rfl,hp,rfl,_,rfl,_,rfl,_,_,_,_,rfl,rfl,hq,rfl,_,_,rfl,rfl,m1,_,_,rfl,rfl,?_⟩
  refine ⟨_,rfl,_,_,_,_,rfl,rfl,hp,rfl,_,rfl,_,rfl,_,_,_,_,rfl,rfl,hq,rfl,_,_,rfl,rfl,m2,_,_,rfl,rfl,?_⟩
  exact ⟨(by show 3<=sizeLine; decide),k⟩
end
inductive ZcZ (vs:List V) (H:Hp) (Q:VK) (zE:XK):Prop
  | mk (x y:Int) (_:vs=[.int x,.int y]) (_:x.natAbs<=10^100) (_:y.natAbs<=10^100) (_:∀(t:Addr) (H':Hp) (u v:Int),Same H H'->H' t=some (.tup [.int (Int.gcd x y),.int u,.int v])->(Int.gcd x y:Int)=x*u+y*v->u.natAbs<=10^101->v.natAbs<=10^101->Q (.ref t) H'):ZcZ vs H Q zE
section
variable{P:Program}{w:World}{K:PySem.W.Frag}{mg:Str->Option Value}{base:Heap}
theorem sc_shares:FnScope ["one", "other", "upper", "lower", "following"] ["one", "other"] (Zag Zf9):=‹2›
theorem Zkm(h:Here K mg "shares" Zf9) (h_less_times:Has P w K mg base "less_times" 1 ["some", "factor", "others"] (Zcz K)):Has P w K mg base "shares" 2 ["one", "other"] ZcZ:=by
  refine h.has (λf fd F=>F.binds λ_ _ _ _ _ _ us hl=>by obtain ⟨_,_,rfl⟩:=ZdM hl; exact rfl) λf fd F=>F.ok sc_shares (λvs H Q E h=>?_) (λcdv A outer s H vs Q E hr h=>?_)
  · obtain ⟨_,_,rfl,_⟩:=h
    rfl
  obtain ⟨x,y,rfl,bx,bY,k⟩:=h
  have nd:=sc_shares.nd
  refine ⟨_,(Zab (Zak (i:=2) nd rfl (Or.inl rfl) (ZaY (Zaa (pv 0) (Zaa Zad (Zaa Zad Zac)))))
    (Zab (Zak (i:=3) nd rfl (Or.inl rfl) (ZaY (Zaa (pv 1) (Zaa Zad (Zaa Zad Zac)))))
    (Zab (Zb3 PassesOwn.never (Zaq Zdv (Zar Zan (pv 3) Zad (λ_ _=>rfl)) Zad (Zap _)) (Zab (Zak (i:=4) nd rfl (Or.inl rfl) (Zao h_less_times hr (by rfl) (Zaa (pv 2) (Zaa (Zal Zf4 (Zar Zan (pv 2) Zad (λ_ _=>rfl)) (Zar Zan (pv 3) Zad (λ_ _=>rfl))) (Zaa (pv 3) Zac)))))
      (Zab (Zak (i:=2) nd rfl (Or.inl rfl) (pv 3))
      (Zae (Zak (i:=3) nd rfl (Or.inl rfl) (pv 4))))))
    (Zab (ZaC (Zaq Zca (Zar Zan (pv 2) Zad (λ_ _=>rfl)) Zad (Zap _)) (Zae (Zaj (Zao h_less_times hr (by rfl) (Zaa (ZaY (Zaa Zad (Zaa Zad (Zaa Zad Zac)))) (Zaa Zad (Zaa (pv 2) Zac)))))) Zat)
    (Zae (Zaj (pv 2))))))),?_⟩
  refine ⟨_,rfl,(by show 3<=sizeLine; decide),λp0 hp0=>?_⟩
  refine ⟨_,rfl,(by show 3<=sizeLine; decide),λp1 hp1=>?_⟩
  have S0:Same H (upd H p0 (.tup [.int x,.int 1,.int 0])):=Zah hp0 _
  have S1:=S0.trans (Zah hp1 (.tup [.int y,.int 0,.int 1]))
  refine ⟨λm σ H'=>∃(p r:Addr) (f:Option V) (a u1 v1 b u2 v2:Int),m=b.natAbs/\σ=[some (.int x),some (.int y),some (.ref p),some (.ref r),f]/\Same H H'/\H' p=some (.tup [.int a,.int u1,.int v1])/\H' r=some (.tup [.int b,.int u2,.int v2])/\M1.Sh x y a u1 v1 b u2 v2,
    ⟨_,p0,p1,none,x,1,0,y,0,1,rfl,rfl,S1,by rw[Zas (ZaF Zaf hp1)]; exact Zaf,Zaf,M1.Sh.start x y⟩,?_⟩
  rintro m σ H' ⟨p,r,f,a,u1,v1,b,u2,v2,rfl,rfl,S,hp,hr',I⟩
  have bd:=I.bound
  have lim:x.natAbs+2*y.natAbs+1+1<=10^150:=by omega
  have lim0:=Nat.le_of_succ_le lim
  refine ⟨_,rfl,_,_,_,_,rfl,rfl,SqT.of hr',rfl,rfl,_,rfl,?_⟩
  refine ZcO (λhb=>⟨_,λ_ _ h=>h,?_⟩) (λhb=>?_)
  · refine ⟨_,rfl,_,rfl,_,_,_,_,rfl,rfl,SqT.of hp,rfl,_,rfl,_,_,_,_,rfl,rfl,SqT.of hr',rfl,_,_,rfl,rfl,⟨hb,Q0 bd.2.2.2.1 lim0⟩,_,rfl,?_⟩
    have fd:=Q0 (M1.fdiv_small a hb) (Q0 (Nat.succ_le_succ bd.1) lim)
    refine ⟨p,r,a.fdiv b,a,u1,v1,b,u2,v2,rfl,SqT.of hp,SqT.of hr',ZbF fd (Q0 bd.2.2.2.1 lim0),ZbF fd (Q0 bd.2.2.2.2.1 lim0),ZbF fd (Q0 bd.2.2.2.2.2 lim0),λt ht=>?_⟩
    refine ⟨_,rfl,_,rfl,?_⟩
    exact ⟨_,(by rw[M1.rest_eq]; exact M1.fmod_lt a hb),r,t,_,b,u2,v2,_,_,_,rfl,rfl,S.trans (Zah ht _),by rw[Zas (ZaF hr' ht)]; exact hr',Zaf,I.turn hb⟩
  · subst hb
    obtain ⟨g1,g2⟩:=I.done
    refine ⟨_,rfl,_,_,_,_,rfl,rfl,SqT.of hp,rfl,_,_,rfl,rfl,_,rfl,?_⟩
    refine Za3 (λhn=>?_) (λhn=>?_)
    · refine ⟨(by show 3<=sizeLine; decide),λz hz=>?_⟩
      refine ⟨_,rfl,?_⟩
      refine ⟨z,p,1,0,0,0,a,u1,v1,rfl,SqT.of Zaf,SqT.of (by rw[Zas (ZaF hp hz)]; exact hp),ZbF ∅ (Q0 bd.1 lim0),ZbF ∅ (Q0 bd.2.1 lim0),ZbF ∅ (Q0 bd.2.2.1 lim0),λt ht=>?_⟩
      have ed:(0:Int)-1*a=Int.gcd x y:=by omega
      refine k t _ (0-1*u1) (0-1*v1) ((S.trans (Zah hz _)).trans (Zah ht _)) (by rw[Zaf,ed]) ?_ ⋯ ⋯
      rw[<-ed,g2,Uy,Uy,Uy,Int.mul_sub,Int.mul_sub]
      omega
    · refine ⟨_,rfl,?_⟩
      have ed:a=Int.gcd x y:=by omega
      refine k p H' u1 v1 S (by rw[<-ed]; exact hp) (by rw[<-ed]; exact g2) ⋯ ⋯
end
def ReA(CR:Addr)(p:Int)(H:Hp)(a:Addr):Prop:=∃dx,H a=some (.ins CR dx (fsR p))
inductive Zgm (CR:Addr) (vs:List V) (H:Hp) (Q:VK) (zE:XK):Prop
  | mk (x dx:Addr) (p:Int) (_:vs=[.ref x,.int p]) (_:H x=some (.ins CR dx [])) (_:M2.Prm p) (_:p<1000000) (_:Q .non (upd H x (.ins CR dx (fsR p)))):Zgm CR vs H Q zE
section
variable{P:Program}{w:World}{K:PySem.W.Frag}{mg:Str->Option Value}{base:Heap}
theorem Zeb:FnScope ["self", "prime"] ["self", "prime"] (Zag ZbI):=‹2›
theorem ZlV{CR:Addr}(h:HereI K CR "Rests.__init__" ZbI) (cl:Cls K CR) (nP:NoAttr K CR "prime") (h_is_whole:Has P w K mg base "is_whole" 1 ["thing"] Zcy) (h_is_prime:Has P w K mg base "is_prime" 1 ["number"] ZdS):HasI P w K mg base CR 2 ["self", "prime"] (Zgm CR):=by
  refine h.hasI (λf fd F=>F.binds λ_ _ _ _ _ _ us hl=>by obtain ⟨_,_,rfl⟩:=ZdM hl; exact rfl) λf fd F=>F.ok Zeb (λvs H Q E h=>?_) (λcdv A outer s H vs Q E hr h=>?_)
  · obtain ⟨_,_,_,rfl,_⟩:=h
    rfl
  obtain ⟨x,dx,p,rfl,hx,hp,lp,k⟩:=h
  refine ⟨_,(Zab (ZaC (Zhx (ZbR (Zbo (Zao h_is_whole hr (by rfl) (Zaa (pv 1) Zac)))) (ZeR (ZbR (Zbo (Zao h_is_prime hr (by rfl) (Zaa (pv 1) Zac)))))).pt (Zae Zlv) Zat)
    (Zae (Zof (pv 0) (pv 1) rfl))),?_⟩
  refine ⟨_,rfl,p,rfl,_,rfl,?_⟩
  refine ZeF ?_
  refine ⟨_,rfl,p,rfl,lp,λ_=>⟨_,rfl,?_⟩,λz=>absurd hp z⟩
  refine ZeF ?_
  exact ⟨_,rfl,_,rfl,x,CR,dx,_,rfl,hx,cl,nP,(by show 0<1000; decide),k⟩
end
structure CN (K:PySem.W.Frag) (mg:Str->Option Value) (x:Str) (C:Addr):Prop where
  m:mg x=some (.ref C)
  c:PySem.W.isClsIn K C=true
  t:PySem.W.typeIn K (.ref C)=some (.type "type")
structure Rf (K:PySem.W.Frag) (mg:Str->Option Value) (CE cK cN cF cT cI cX cM cR:Addr):Prop where
  e:CN K mg "FrameError" CE
  eb:PySem.W.mroIn K CE (.type "BaseException")=some true
  k:CN K mg "NoKind" cK
  n:CN K mg "NoNumber" cN
  f:CN K mg "NoFit" cF
  t:CN K mg "NoTurn" cT
  i:CN K mg "NoInverse" cI
  x:CN K mg "NoText" cX
  m:CN K mg "NoName" cM
  r:CN K mg "NoRow" cR
  ve:mg "ValueError" = none
theorem Rf.cat{K:PySem.W.Frag}{mg:Str->Option Value}{CE cK cN cF cT cI cX cM cR:Addr}(R:Rf K mg CE cK cN cF cT cI cX cM cR):CatC K mg "FrameError" CE:=⟨R.e.m,R.e.t,R.eb,R.e.c⟩
def Zji(K:PySem.W.Frag)(C:Addr):List Addr->Prop
  | []=>True
  | D::r=>(PySem.W.mroIn K C (.ref D)=some false/\C≠D)/\Zji K C r
structure Rz (K:PySem.W.Frag) (mg:Str->Option Value) (x:Str) (CE C:Addr) (os:List Addr):Prop where
  c:ExcC K mg x C
  e:PySem.W.mroIn K C (.ref CE)=some true
  v:PySem.W.mroIn K C (.type "ValueError")=some true
  o:Zji K C os
theorem CN.no{K:PySem.W.Frag}{mg:Str->Option Value}{x:Str}{C D:Addr}(n:CN K mg x D)(h:PySem.W.mroIn K C (.ref D)=some false/\C≠D):PySem.W.kitOne K (.ref C) (.ref D)=some false:=Zng n.c n.t h.1 h.2
def Zp9(m:Nat)(g:Nat->V):List V:=(List.range m).map g
theorem Zax{rs:List Addr}{i:Nat}{x:V}(h:(rs.map V.ref)[i]?=some x):∃r,rs[i]?=some r/\x = .ref r:=by
  rw[Qg] at h
  cases e:rs[i]? with
  | none=>rw[e] at h; cases h
  | some r=>rw[e] at h; exact ⟨r,rfl,(Option.some.inj h).symm⟩
theorem Zbq{rs:List Addr}{i:Nat}{r:Addr}(h:rs[i]?=some r):atI (rs.map V.ref) (i:Int)=some (.ref r):=ZbE (by rw[Qg,h]; rfl)
def Rows(H:Hp)(rs:List Addr)(m:Nat)(g:Nat->Nat->V):Prop:=∀(i:Nat) (r:Addr),rs[i]?=some r->H r=some (.lst (Zp9 m (g i)))
structure Tb (H:Hp) (t:Addr) (rs:List Addr) (m:Nat) (g:Nat->Nat->V):Prop where
  l:H t=some (.lst (rs.map V.ref))
  r:Rows H rs m g
structure New (H:Hp) (rs:List Addr):Prop where
  nd:rs.Nodup
  no:∀r∈rs,H r=none
theorem z0(i:Nat):(0:Int)+(i:Int)=(i:Int):=Qr _
theorem Zfi{l:List Addr}(h:l.Nodup){i j:Nat}{a:Addr}(hi:l[i]?=some a)(hj:l[j]?=some a):i=j:=by
  obtain ⟨l1,e1⟩:=Qw.mp hi
  obtain ⟨l2,e2⟩:=Qw.mp hj
  have p:=List.pairwise_iff_getElem.mp h
  rcases Nat.lt_trichotomy i j with c | c | c
  · exact absurd (e1.trans e2.symm) (p i j l1 l2 c)
  · exact c
  · exact absurd (e2.trans e1.symm) (p j i l2 l1 c)
theorem New.out{H:Hp}{rs:List Addr}{a:Addr}{o:HO}(h:New H rs)(q:H a=some o):a∉rs:=λm=>by rw[h.no a m] at q; cases q
theorem Znu{n i:Nat}(h:i<n):ixN n ((i:Nat):Int)=some i:=by
  have:=ZbE (xs:=List.range n) (j:=i) (v:=i) (by simp[h])
  unfold atI at this
  rw[List.length_range] at this
  cases q:ixN n (i:Int) with
  | none=>rw[q] at this; cases this
  | some j =>
    rw[q] at this
    simp only[Option.bind_some] at this
    have h2:=(Qw.mp this).2
    simp at h2
    rw[h2]
def KdA(CF CR:Addr)(p:Int)(H:Hp)(k:Addr):Prop:=(p=0/\FrA CF H k)\/(M2.Prm p/\p<1000000/\ReA CR p H k)
def Ez(H:Hp)(p e:Int)(v:V):Prop:=(p=0/\∃t,v = .ref t/\H t=some (.tup [.int e,.int 1]))\/(0<p/\v = .int e)
theorem Zhd{ns:List Int}{i:Nat}(h:i<ns.length):atI (ns.map V.int) (i:Int)=some (.int ns[i]):=ZbE (by rw[Qg,Q2 h] <;> rfl)
def PK(p:Int):Prop:=p=0\/(M2.Prm p/\p<1000000)
theorem PK.ge{p:Int}(h:PK p):0<=p:=by
  rcases h with rfl | ⟨h,_⟩
  · exact Int.le_refl _
  · have:=h.1; omega
def Nu(H:Hp)(p:Int)(v:V):Prop:=(p=0/\∃t a b,v = .ref t/\H t=some (.tup [.int a,.int b])/\Fc a b/\a.natAbs<=10^60/\b.natAbs<=10^60)\/(0<p/\∃x,v = .int x/\0<=x/\x<p)
theorem Zph(c:Int):∃m:Int,atI [V.int 11,V.int 11,V.int 999982] (c%3)=some (.int m)/\11<=m/\m<=999982:=by
  rcases (by omega:c%3=0\/c%3=1\/c%3=2) with e | e | e <;> rw[e]
  · exact ⟨11,rfl,∅,∅⟩
  · exact ⟨11,rfl,∅,∅⟩
  · exact ⟨999982,rfl,∅,∅⟩
structure Ce (H:Hp) (c:Addr) (cs:List Int):Prop where
  l:H c=some (.lst (cs.map V.int))
  h1:1<=cs.length
  h2:cs.length<=66
  b:∀i∈cs,Bits 1048576 i
theorem Ce.same{H H':Hp}{c:Addr}{cs:List Int}(h:Ce H c cs)(S:Same H H'):Ce H' c cs:=⟨S _ _ h.l,h.h1,h.h2,h.b⟩
def Off(D:List Addr)(H H':Hp):Prop:=∀a o,a∉D->H a=some o->H' a=some o
theorem Off.same{D:List Addr}{H0 H H':Hp}(O:Off D H H')(S:Same H0 H)(n:∀r∈D,H0 r=none):Same H0 H':=λb o q=>O b o (λm=>by rw[n b m] at q; cases q) (S _ _ q)
def Zqa(H:Hp)(p:Int)(x y:V):Prop:=(0<p/\∃i,x = .int i/\y = .int i)\/(p=0/\∃s t a b,x = .ref s/\y = .ref t/\H s=some (.tup [.int a,.int b])/\H t=some (.tup [.int a,.int b]))
theorem Ez.eq{H:Hp}{p e:Int}{x y:V}(h:Ez H p e x)(h':Ez H p e y):Zqa H p x y:=by
  rcases h with ⟨z,t,e1,h1⟩ | ⟨z,e1⟩
  · rcases h' with ⟨_,t',e2,h2⟩ | ⟨z',_⟩
    · exact .inr ⟨z,t,t',_,_,e1,e2,h1,h2⟩
    · omega
  · rcases h' with ⟨z',_⟩ | ⟨_,e2⟩
    · omega
    · exact .inl ⟨z,_,e1,e2⟩
theorem Nu.kind{H:Hp}{p:Int}{x:V}(h:Nu H p x):(∃i,x = .int i)\/∃a,x = .ref a:=by
  rcases h with ⟨_,t,_,_,e,_⟩ | ⟨_,i,e,_⟩
  · exact .inr ⟨t,e⟩
  · exact .inl ⟨i,e⟩
end My
namespace My
open PySem L2 PyProof.Rows
class Fd (α:Type) extends Lean.Grind.CommRing α where
  inv:α->α
  mul_inv:∀a:α,a≠0->a*inv a=1
  zne:(0:α)≠1
instance:Fd Rat where
  inv:=Rat.inv
  mul_inv:=λa h=>Rat.mul_inv_cancel a h
  zne:=by decide
theorem bez:∀a b:Nat,∃u v:Int,a*u+b*v=(Nat.gcd a b:Int):=by
  intro a b
  induction a,b using Nat.gcd.induction with
  | H0 n=>exact ⟨0,1,by simp⟩
  | H1 m n hm ih =>
    obtain ⟨u,v,e⟩:=ih
    refine ⟨v-(n/m:Nat)*u,u,?_⟩
    rw[Nat.gcd_rec,<-e]
    have h:(n:Int)=m*(n/m:Nat)+(n%m:Nat):=by
      have:=Nat.div_add_mod n m
      exact_mod_cast this.symm
    rw[Int.mul_sub]
    conv=>lhs; rw[h]
    rw[Int.add_mul]
    generalize ((n/m:Nat):Int)=q
    generalize ((n%m:Nat):Int)=r
    have e1:(m:Int)*(q*u)=m*q*u:=by rw[Qn]
    omega
structure PrN (p:Nat):Prop where
  pr:M2.Prm (p:Int)
  lt:p<1000000
theorem PrN.two{p:Nat}(h:PrN p):2<=p:=by have:=h.pr.1; omega
theorem PrN.nz{p:Nat}(h:PrN p):NeZero p:=⟨by have:=h.two; omega⟩
theorem Zkn{p:Nat}(h:PrN p):letI:=h.nz; ∀a:Fin p,a≠0->∃b:Fin p,a*b=1:=by
  letI:=h.nz
  intro a ha
  have h2:=h.two
  have nd:¬(p:Int) ∣ (a.val:Int):=by
    rintro ⟨k,hk⟩
    have hv:a.val≠0:=λz=>ha (Fin.ext (by simpa using z))
    have hl:=a.isLt
    have hk0:0<k:=by
      rcases Int.lt_or_le 0 k with c | c
      · exact c
      · have:(p:Int)*k<=0:=Int.mul_nonpos_of_nonneg_of_nonpos ⋯ c
        omega
    have:(p:Int)*1<=p*k:=Int.mul_le_mul_of_nonneg_left ⋯ ⋯
    omega
  have g:=M2.prm_gcd h.pr nd
  obtain ⟨u,v,e⟩:=bez a.val p
  have g':Nat.gcd a.val p=1:=by
    have:Int.gcd (a.val:Int) (p:Int)=Nat.gcd a.val p:=rfl
    omega
  rw[g'] at e
  refine ⟨⟨(u%p).toNat,?_⟩,?_⟩
  · have:=Wt u (show 0<(p:Int) by omega)
    have:=Wd u (show (p:Int)≠0 by omega)
    omega
  · refine Fin.ext ?_
    rw[Fin.val_mul]
    have e0:=Wd u (show (p:Int)≠0 by omega)
    have e1:((a.val*(u%p).toNat%p:Nat):Int)=((1:Nat):Int):=by
      rw[Wb,Wl,Int.toNat_of_nonneg e0,Int.mul_emod,Int.emod_emod_of_dvd _ (Int.dvd_refl _),<-Int.mul_emod]
      have:(a.val:Int)*u=1-p*v:=by omega
      rw[this,Int.sub_emod,Int.mul_emod_right]
      simp
      exact Ub ⋯ ⋯
    have e2:a.val*(u%p).toNat%p=1:=by exact_mod_cast e1
    have e3:(1:Fin p).val=1:=by
      show 1%p=1
      exact Nat.mod_eq_of_lt h2
    rw[e3]
    exact e2
@[reducible] noncomputable def finFd {p:Nat} (h:PrN p):Fd (Fin p) :=
  letI:=h.nz
  { (inferInstance:Lean.Grind.CommRing (Fin p)) with
    inv:=λa=>if ha:a≠0 then Classical.choose (Zkn h a ha) else 0
    mul_inv:=λa ha=>by
      simp only[dif_pos ha]
      exact Classical.choose_spec (Zkn h a ha)
    zne:=λz=>by
      have:=congrArg Fin.val z
      have h2:=h.two
      have e3:(1:Fin p).val=1:=by
        show 1%p=1
        exact Nat.mod_eq_of_lt h2
      have e4:(0:Fin p).val=0:=by simp
      rw[e3,e4] at this
      cases this }
inductive KX where
  | q
  | r (p:Nat) (h:PrN p)
@[reducible] def KX.F:KX->Type
  | .q=>Rat
  | .r p _=>Fin p
noncomputable instance (κ:KX):Fd κ.F:=match κ with
  | .q=>inferInstanceAs (Fd Rat)
  | .r _ h=>finFd h
def KX.P:KX->Int
  | .q=>0
  | .r p _=>p
def KX.D:(κ:KX)->κ.F->PyData
  | .q,x => .tuple [.int x.num,.int x.den]
  | .r _ _,x => .int x.val
def NR(κ:KX)(H:Hp)(v:V)(x:κ.F):Prop:=match κ with
  | .q=>∃a,v = .ref a/\H a=some (.tup [.int x.num,.int x.den])
  | .r _ _=>v = .int x.val
theorem NR.same{κ:KX}{H H':Hp}{v:V}{x:κ.F}(h:NR κ H v x)(S:Same H H'):NR κ H' v x:=by
  cases κ with
  | q=>obtain ⟨a,e,h⟩:=h; exact ⟨a,e,S _ _ h⟩
  | r p hp=>exact h
theorem NR.off{κ:KX}{H H':Hp}{t:Addr}{ys:List V}{v:V}{x:κ.F}(h:NR κ H v x)(ht:H t=some (.lst ys))(O:Off [t] H H'):NR κ H' v x:=by
  cases κ with
  | q =>
    obtain ⟨a,e,h⟩:=h
    refine ⟨a,e,O _ _ (λm=>?_) h⟩
    rw[Q6.mp m,ht] at h
    cases h
  | r p hp=>exact h
theorem Zgn{H:Hp}{i:Int}:Fl H (.int i) (.int i):=.inr (.inr (.inl ⟨i,rfl,rfl⟩))
theorem NR.rp{κ:KX}{H:Hp}{v:V}{x:κ.F}(h:NR κ H v x):Rp H 1 v (κ.D x):=by
  cases κ with
  | q =>
    obtain ⟨a,rfl,h⟩:=h
    exact Zot h (.cons Zgn (.cons Zgn .nil))
  | r p hp =>
    have h:v = .int x.val:=h
    subst h
    exact .inl Zgn
def Bd(κ:KX)(n m:Nat)(x:κ.F):Prop:=match κ with
  | .q=>Bits n x.num/\Bits m (x.den:Int)
  | .r _ _=>True
theorem Zko{n d N D:Int}(fc:Fc n d)(hD:0<D)(e:n*D=N*d):(Rat.divInt N D).num=n/\((Rat.divInt N D).den:Int)=d:=by
  have hd:=fc.pos
  have q0:∃q:Rat,q.num=n/\(q.den:Int)=d:=by
    refine ⟨⟨n,d.toNat,⋯,?_⟩,rfl,by show ((d.toNat:Nat):Int)=d; omega⟩
    have:=fc.cop
    rw[Nat.coprime_iff_gcd_eq_one]
    have e:Int.gcd n d=Nat.gcd n.natAbs d.natAbs:=rfl
    have e2:d.natAbs=d.toNat:=by omega
    rw[<-e2]
    omega
  obtain ⟨q,e1,e2⟩:=q0
  have:Rat.divInt N D=q:=by
    rw[<-Qs q,e1,e2,W5 ⋯ ⋯]
    exact e.symm
  rw[this]
  exact ⟨e1,e2⟩
theorem Za8(x:Rat):Fc x.num x.den:=⟨by have:=x.den_nz; omega,by
  have:=x.reduced
  rw[Nat.coprime_iff_gcd_eq_one] at this
  exact this⟩
theorem Zkp{x y:Rat}{n d:Int}(fc:Fc n d)(e:n*((x.den:Int)*y.den)=(x.num*y.den+y.num*x.den)*d):(x+y).num=n/\((x+y).den:Int)=d:=by
  have hx:=(Za8 x).pos
  have hy:=(Za8 y).pos
  have:x+y=Rat.divInt (x.num*y.den+y.num*x.den) ((x.den:Int)*y.den):=by
    rw[<-Uz _ _ ⋯ ⋯,Qs,Qs]
  rw[this]
  exact Zko fc (Qu hx hy) e
theorem ZhR{x y:Rat}{n d:Int}(fc:Fc n d)(e:n*((x.den:Int)*y.den)=(x.num*y.num)*d):(x*y).num=n/\((x*y).den:Int)=d:=by
  have hx:=(Za8 x).pos
  have hy:=(Za8 y).pos
  have:x*y=Rat.divInt (x.num*y.num) ((x.den:Int)*y.den):=by
    rw[<-Wm,Qs,Qs]
  rw[this]
  exact Zko fc (Qu hx hy) e
end My
namespace My
open PySem L2 PyProof.Rows
inductive ZdT (K:PySem.W.Frag) (CF:Addr) (vs:List V) (H:Hp) (Q:VK) (zE:XK):Prop
  | mk (s p q:Addr) (a1 b1 a2 b2:Int) (_:vs=[.ref s,.ref p,.ref q]) (_:FrA CF H s) (_:SqT K H p [.int a1,.int b1]) (_:SqT K H q [.int a2,.int b2]) (_:Fc a1 b1) (_:Fc a2 b2) (_:Bits 1000000 a1) (_:Bits 4000 b1) (_:Bits 1000000 a2) (_:Bits 4000 b2) (_:∀(t:Addr) (H':Hp) (x y:Int),Same H H'->H' t=some (.tup [.int x,.int y])->H t=none->Fc x y->x*(b1*b2)=(a1*b2+a2*b1)*y->Q (.ref t) H'):ZdT K CF vs H Q zE
section
variable{P:Program}{w:World}{K:PySem.W.Frag}{mg:Str->Option Value}{base:Heap}
theorem sc_Fractions_plusG:FnScope ["self", "one", "other", "common", "ahead", "top", "left"] ["self", "one", "other"] (Zag ZbG):=‹2›
theorem Zkq{CF:Addr}(h:HereM K CF "plus" "Fractions.plus" ZbG) (h_divisor:Has P w K mg base "divisor" 1 ["one", "other"] ZaU):HasM P w K mg base CF "plus" 2 ["self", "one", "other"] [] (ZdT K CF):=by
  refine h.hasM (λf fd F=>F.binds λ_ _ _ _ _ _ us hl=>by obtain ⟨_,_,_,rfl⟩:=Zdq hl; exact rfl) λf fd F=>F.ok sc_Fractions_plusG (λvs H Q E h=>?_) (λcdv A outer s H vs Q E hr h=>?_)
  · obtain ⟨_,_,_,_,_,_,_,rfl,_⟩:=h
    rfl
  obtain ⟨sf,p,q,a1,b1,a2,b2,rfl,_,hp,hq,f1,f2,la1,lb1,la2,lb2,k⟩:=h
  have nd:=sc_Fractions_plusG.nd
  refine ⟨_,(Zab (Zak (i:=3) nd rfl (Or.inl rfl) (Zao h_divisor hr (by rfl) (Zaa (Zar Zan (pv 1) Zad (λ_ _=>rfl)) (Zaa (Zar Zan (pv 2) Zad (λ_ _=>rfl)) Zac))))
    (Zab (Zak (i:=4) nd rfl (Or.inl rfl) (Zal ZbM (Zar Zan (pv 1) Zad (λ_ _=>rfl)) (pv 3)))
    (Zab (Zak (i:=5) nd rfl (Or.inl rfl) (Zal Za6 (Zal ZaB (Zar Zan (pv 1) Zad (λ_ _=>rfl)) (Zal ZbM (Zar Zan (pv 2) Zad (λ_ _=>rfl)) (pv 3))) (Zal ZaB (Zar Zan (pv 2) Zad (λ_ _=>rfl)) (pv 4))))
    (Zab (Zak (i:=6) nd rfl (Or.inl rfl) (Zao h_divisor hr (by rfl) (Zaa (pv 5) (Zaa (pv 3) Zac))))
    (Zae (Zaj (ZaY (Zaa (Zal ZbM (pv 5) (pv 6)) (Zaa (Zal ZaB (pv 4) (Zal ZbM (Zar Zan (pv 2) Zad (λ_ _=>rfl)) (pv 6))) Zac))))))))),?_⟩
  have hb1:=f1.pos
  have hb2:=f2.pos
  have hg:=M3.gcd_ne (a:=b1) (b:=b2) ⋯
  have gl:Int.gcd b1 b2<=b2.natAbs:=Wy ⋯ (Wz.mpr (W1 b1 b2))
  have hg1:(Int.gcd b1 b2:Int)≠0/\Bits 4000 (Int.gcd b1 b2:Int):=⟨⋯,lb2.le (by rw[Qt]; exact gl)⟩
  have d1:=M3.fdiv_le (Wr b1 b2) hg1.1
  have d2:=M3.fdiv_le (W1 b1 b2) hg1.1
  refine ⟨_,rfl,_,_,_,_,rfl,rfl,hp,rfl,_,rfl,_,_,_,_,rfl,rfl,hq,rfl,b1,b2,rfl,?_⟩
  refine ⟨_,rfl,_,_,_,_,rfl,rfl,hp,rfl,_,rfl,_,_,rfl,rfl,hg1,?_⟩
  refine ⟨_,rfl,_,_,_,_,rfl,rfl,hp,rfl,_,rfl,_,_,_,_,rfl,rfl,hq,rfl,_,rfl,_,_,rfl,rfl,hg1,_,_,rfl,rfl,la1.mulG (lb2.le d2),_,rfl,_,_,_,_,rfl,rfl,hq,rfl,_,rfl,_,_,rfl,rfl,la2.mulG (lb1.le d1),_,_,rfl,rfl,?_⟩
  refine ⟨_,rfl,_,rfl,_,_,rfl,?_⟩
  obtain ⟨o1,o2,o3,o4⟩:=M3.plus_ok hb1 hb2 f1.cop f2.cop rfl
  have ll:Int.gcd (a1*b2.fdiv (Int.gcd b1 b2)+a2*b1.fdiv (Int.gcd b1 b2)) (Int.gcd b1 b2)<=Int.gcd b1 b2:=Wy ⋯ (Int.ofNat_dvd.mp (W1 (a1*b2.fdiv (Int.gcd b1 b2)+a2*b1.fdiv (Int.gcd b1 b2)) (Int.gcd b1 b2)))
  have hl1:(Int.gcd (a1*b2.fdiv (Int.gcd b1 b2)+a2*b1.fdiv (Int.gcd b1 b2)) (Int.gcd b1 b2):Int)≠0/\Bits 4000 (Int.gcd (a1*b2.fdiv (Int.gcd b1 b2)+a2*b1.fdiv (Int.gcd b1 b2)) (Int.gcd b1 b2):Int):=⟨by have:=M3.gcd_ne (a:=a1*b2.fdiv (Int.gcd b1 b2)+a2*b1.fdiv (Int.gcd b1 b2)) (b:=(Int.gcd b1 b2:Int)) ⋯; omega,lb2.le (by rw[Qt]; exact Q0 ll gl)⟩
  have d3:=M3.fdiv_le (Wr (a1*b2.fdiv (Int.gcd b1 b2)+a2*b1.fdiv (Int.gcd b1 b2)) (Int.gcd b1 b2)) hl1.1
  have d4:=M3.fdiv_le (Int.dvd_trans (W1 (a1*b2.fdiv (Int.gcd b1 b2)+a2*b1.fdiv (Int.gcd b1 b2)) (Int.gcd b1 b2)) (W1 b1 b2)) hl1.1
  refine ⟨_,rfl,_,rfl,_,_,rfl,rfl,hl1,_,rfl,_,rfl,_,_,_,_,rfl,rfl,hq,rfl,_,rfl,_,_,rfl,rfl,hl1,_,_,rfl,rfl,((lb1.le d1).up ∅).mulG (lb2.le d4),(by show 2<=sizeLine; decide),λt ht'=>?_⟩
  exact k t _ _ _ (Zah ht' _) Zaf ht' ⟨o2,o3⟩ o4
end
inductive Zec (K:PySem.W.Frag) (CF:Addr) (vs:List V) (H:Hp) (Q:VK) (zE:XK):Prop
  | mk (s p q:Addr) (a1 b1 a2 b2:Int) (_:vs=[.ref s,.ref p,.ref q]) (_:FrA CF H s) (_:SqT K H p [.int a1,.int b1]) (_:SqT K H q [.int a2,.int b2]) (_:Fc a1 b1) (_:Fc a2 b2) (_:Bits 1000000 a1) (_:Bits 4000 b1) (_:Bits 1000000 a2) (_:Bits 4000 b2) (_:∀(t:Addr) (H':Hp) (x y:Int),Same H H'->H' t=some (.tup [.int x,.int y])->H t=none->Fc x y->x*(b1*b2)=(a1*a2)*y->Q (.ref t) H'):Zec K CF vs H Q zE
section
variable{P:Program}{w:World}{K:PySem.W.Frag}{mg:Str->Option Value}{base:Heap}
theorem sc_Fractions_timesG:FnScope ["self", "one", "other", "falling", "rising", "top"] ["self", "one", "other"] (Zag Zbs):=‹2›
theorem Zjj{CF:Addr}(h:HereM K CF "times" "Fractions.times" Zbs) (h_divisor:Has P w K mg base "divisor" 1 ["one", "other"] ZaU):HasM P w K mg base CF "times" 2 ["self", "one", "other"] [] (Zec K CF):=by
  refine h.hasM (λf fd F=>F.binds λ_ _ _ _ _ _ us hl=>by obtain ⟨_,_,_,rfl⟩:=Zdq hl; exact rfl) λf fd F=>F.ok sc_Fractions_timesG (λvs H Q E h=>?_) (λcdv A outer s H vs Q E hr h=>?_)
  · obtain ⟨_,_,_,_,_,_,_,rfl,_⟩:=h
    rfl
  obtain ⟨sf,p,q,a1,b1,a2,b2,rfl,_,hp,hq,f1,f2,la1,lb1,la2,lb2,k⟩:=h
  have nd:=sc_Fractions_timesG.nd
  refine ⟨_,(Zab (Zak (i:=3) nd rfl (Or.inl rfl) (Zao h_divisor hr (by rfl) (Zaa (Zar Zan (pv 1) Zad (λ_ _=>rfl)) (Zaa (Zar Zan (pv 2) Zad (λ_ _=>rfl)) Zac))))
    (Zab (Zak (i:=4) nd rfl (Or.inl rfl) (Zao h_divisor hr (by rfl) (Zaa (Zar Zan (pv 2) Zad (λ_ _=>rfl)) (Zaa (Zar Zan (pv 1) Zad (λ_ _=>rfl)) Zac))))
    (Zab (Zak (i:=5) nd rfl (Or.inl rfl) (Zal ZaB (Zal ZbM (Zar Zan (pv 1) Zad (λ_ _=>rfl)) (pv 3)) (Zal ZbM (Zar Zan (pv 2) Zad (λ_ _=>rfl)) (pv 4))))
    (Zae (Zaj (ZaY (Zaa (pv 5) (Zaa (Zal ZaB (Zal ZbM (Zar Zan (pv 1) Zad (λ_ _=>rfl)) (pv 4)) (Zal ZbM (Zar Zan (pv 2) Zad (λ_ _=>rfl)) (pv 3))) Zac)))))))),?_⟩
  have hb1:=f1.pos
  have hb2:=f2.pos
  have hf:=M3.gcd_ne (a:=a1) (b:=b2) ⋯
  have hg:=M3.gcd_ne (a:=a2) (b:=b1) ⋯
  have gf:Int.gcd a1 b2<=b2.natAbs:=Wy (Zkl hb2) (Wz.mpr (W1 a1 b2))
  have gg:Int.gcd a2 b1<=b1.natAbs:=Wy (Zkl hb1) (Wz.mpr (W1 a2 b1))
  have hf1:(Int.gcd a1 b2:Int)≠0/\Bits 4000 (Int.gcd a1 b2:Int):=⟨⋯,lb2.le (by rw[Qt]; exact gf)⟩
  have hg1:(Int.gcd a2 b1:Int)≠0/\Bits 4000 (Int.gcd a2 b1:Int):=⟨⋯,lb1.le (by rw[Qt]; exact gg)⟩
  have d1:=M3.fdiv_le (Wr a1 b2) hf1.1
  have d2:=M3.fdiv_le (W1 a1 b2) hf1.1
  have d3:=M3.fdiv_le (Wr a2 b1) hg1.1
  have d4:=M3.fdiv_le (W1 a2 b1) hg1.1
  refine ⟨_,rfl,_,_,_,_,rfl,rfl,hp,rfl,_,rfl,_,_,_,_,rfl,rfl,hq,rfl,a1,b2,rfl,?_⟩
  refine ⟨_,rfl,_,_,_,_,rfl,rfl,hq,rfl,_,rfl,_,_,_,_,rfl,rfl,hp,rfl,a2,b1,rfl,?_⟩
  refine ⟨_,rfl,_,_,_,_,rfl,rfl,hp,rfl,_,rfl,_,_,rfl,rfl,hf1,_,rfl,_,_,_,_,rfl,rfl,hq,rfl,_,rfl,_,_,rfl,rfl,hg1,_,_,rfl,rfl,(la1.le d1).mulT (la2.le d3),?_⟩
  refine ⟨_,rfl,_,rfl,_,_,_,_,rfl,rfl,hp,rfl,_,rfl,_,_,rfl,rfl,hg1,_,rfl,_,_,_,_,rfl,rfl,hq,rfl,_,rfl,_,_,rfl,rfl,hf1,_,_,rfl,rfl,((lb1.le d4).up ∅).mulG (lb2.le d2),(by show 2<=sizeLine; decide),λt ht'=>?_⟩
  obtain ⟨o2,o3,o4⟩:=M3.times_ok hb1 hb2 f1.cop f2.cop
  exact k t _ _ _ (Zah ht' _) Zaf ht' ⟨o2,o3⟩ o4
end
inductive Zfj (CR:Addr) (g:Int->Int->Int) (vs:List V) (H:Hp) (Q:VK) (zE:XK):Prop
  | mk (s:Addr) (p a b:Int) (_:vs=[.ref s,.int a,.int b]) (_:ReA CR p H s) (_:2<=p) (_:a.natAbs<=10^150) (_:b.natAbs<=10^150) (_:Q (.int (g a b%p)) H):Zfj CR g vs H Q zE
section
variable{P:Program}{w:World}{K:PySem.W.Frag}{mg:Str->Option Value}{base:Heap}
theorem Zgo:FnScope ["self", "one", "other"] ["self", "one", "other"] (Zag ZcU):=‹2›
theorem ZlW{CR:Addr}(h:HereM K CR "plus" "Rests.plus" ZcU) (cl:Cls K CR) (nP:NoAttr K CR "prime"):HasM P w K mg base CR "plus" 1 ["self", "one", "other"] [] (Zfj CR λa b=>a+b):=by
  refine h.hasM (λf fd F=>F.binds λ_ _ _ _ _ _ us hl=>by obtain ⟨_,_,_,rfl⟩:=Zdq hl; exact rfl) λf fd F=>F.ok Zgo (λvs H Q E h=>?_) (λcdv A outer s H vs Q E hr h=>?_)
  · obtain ⟨_,_,_,_,rfl,_⟩:=h
    rfl
  obtain ⟨sr,p,a,b,rfl,⟨dx,hs⟩,h2,la,lb,k⟩:=h
  refine ⟨_,(Zae (Zaj (Zal ZaS (Zal Za6 (pv 1) (pv 2)) (ZeZ (pv 0) rfl)))),?_⟩
  refine ⟨_,rfl,_,rfl,_,_,rfl,rfl,_,rfl,sr,CR,dx,_,_,rfl,hs,cl,nP,ZbT p,_,_,rfl,rfl,(show p≠0 by omega),?_⟩
  show Q (V.int ((a+b).fmod p)) _
  rw[Qy _ ⋯]
  exact k
end
section
variable{P:Program}{w:World}{K:PySem.W.Frag}{mg:Str->Option Value}{base:Heap}
theorem ZfI:FnScope ["self", "one", "other"] ["self", "one", "other"] (Zag Zcx):=‹2›
theorem Zkr{CR:Addr}(h:HereM K CR "times" "Rests.times" Zcx) (cl:Cls K CR) (nP:NoAttr K CR "prime"):HasM P w K mg base CR "times" 1 ["self", "one", "other"] [] (Zfj CR λa b=>a*b):=by
  refine h.hasM (λf fd F=>F.binds λ_ _ _ _ _ _ us hl=>by obtain ⟨_,_,_,rfl⟩:=Zdq hl; exact rfl) λf fd F=>F.ok ZfI (λvs H Q E h=>?_) (λcdv A outer s H vs Q E hr h=>?_)
  · obtain ⟨_,_,_,_,rfl,_⟩:=h
    rfl
  obtain ⟨sr,p,a,b,rfl,⟨dx,hs⟩,h2,la,lb,k⟩:=h
  refine ⟨_,(Zae (Zaj (Zal ZaS (Zal ZaB (pv 1) (pv 2)) (ZeZ (pv 0) rfl)))),?_⟩
  refine ⟨_,rfl,_,rfl,_,_,rfl,rfl,ZbF la lb,_,rfl,sr,CR,dx,_,_,rfl,hs,cl,nP,ZbT p,_,_,rfl,rfl,(show p≠0 by omega),?_⟩
  show Q (V.int ((a*b).fmod p)) _
  rw[Qy _ ⋯]
  exact k
end
theorem Zpi{t b:Int}(hb:b≠0):∃c:Int,c=(if b<0 then -(Int.gcd t b:Int) else (Int.gcd t b:Int))/\c≠0/\c.natAbs<=b.natAbs/\Fc (t.fdiv c) (b.fdiv c)/\t.fdiv c*b=t*b.fdiv c/\(t.fdiv c).natAbs<=t.natAbs/\(b.fdiv c).natAbs<=b.natAbs:=by
  have hg:=M3.gcd_ne (a:=t) hb
  have gl:Int.gcd t b<=b.natAbs:=Wy ⋯ (Wz.mpr (W1 t b))
  by_cases h:b<0
  · refine ⟨-(Int.gcd t b:Int),by rw[if_pos h],⋯,⋯,?_⟩
    have e1:t.fdiv (-(Int.gcd t b:Int))=(-t).fdiv (Int.gcd t b):=by rw[<-Int.neg_fdiv_neg,Int.neg_neg]
    have e2:b.fdiv (-(Int.gcd t b:Int))=(-b).fdiv (Int.gcd t b):=by rw[<-Int.neg_fdiv_neg,Int.neg_neg]
    have e3:Int.gcd t b=Int.gcd (-t) (-b):=by rw[Int.neg_gcd,Int.gcd_neg]
    obtain ⟨l1,l2,l3,l4,l5⟩:=M3.low (t:=-t) (b:=-b) ⋯
    rw[e1,e2,e3]
    refine ⟨⟨l2,l1⟩,?_,⋯,⋯⟩
    rw[Wq,Int.neg_mul] at l3
    exact Int.neg_inj.mp l3
  · refine ⟨(Int.gcd t b:Int),by rw[if_neg h],⋯,⋯,?_⟩
    obtain ⟨l1,l2,l3,l4,l5⟩:=M3.low (t:=t) (b:=b) ⋯
    exact ⟨⟨l2,l1⟩,l3,l4,l5⟩
inductive Zdi (cN:Addr) (vs:List V) (H:Hp) (Q:VK) (E:XK):Prop
  | mk (s:Addr) (t b:Int) (_:vs=[.ref s,.int t,.int b]) (_:b.natAbs<=10^150) (_:(b=0->E (.ref cN) none H)) (_:(b≠0->∀(r:Addr) (x y:Int),H r=none->Fc x y->x*b=t*y->x.natAbs<=t.natAbs->y.natAbs<=b.natAbs->Q (.ref r) (upd H r (.tup [.int x,.int y])))):Zdi cN vs H Q E
section
variable{P:Program}{w:World}{K:PySem.W.Frag}{mg:Str->Option Value}{base:Heap}
theorem sc_Fractions_number:FnScope ["self", "top", "bottom", "common"] ["self", "top", "bottom"] (Zag ZaO):=‹2›
theorem ZhS{cN:Addr}{f T:Addr}{fd:FuncData}{items:Array Value}(F:FunD K "number" "Fractions.number" ZaO f fd T items) (c:ExcC K mg "NoNumber" cN) (h_divisor:Has P w K mg base "divisor" 1 ["one", "other"] ZaU):FnOk P w K mg base (CXx P w) 2 f fd ["self", "top", "bottom"] (Zdi cN):=by
  refine F.okx sc_Fractions_number (λvs H Q E h=>?_) (λcdv A outer s H vs Q E hr h=>?_)
  · obtain ⟨_,_,_,rfl,_⟩:=h
    rfl
  obtain ⟨sf,t,b,rfl,lb,k0,k⟩:=h
  have nd:=sc_Fractions_number.nd
  refine ⟨_,(Zab (ZaC (Zaq Zbh (pv 2) Zad (Zap _)) (Zae (Zcs c Ze3 rfl (by rfl) (Zaa Zbe Zac))) Zat)
    (Zab (Zak (i:=3) nd rfl (Or.inl rfl) (Zao h_divisor hr (by rfl) (Zaa (pv 1) (Zaa (pv 2) Zac))))
    (Zab (ZaC (Zaq Zca (pv 2) Zad (Zap _)) (Zae (Zak (i:=3) nd rfl (Or.inl rfl) (Zf0 ZdN (pv 3)))) Zat)
    (Zae (Zaj (ZaY (Zaa (Zal Zf4 (pv 1) (pv 3)) (Zaa (Zal Zf4 (pv 2) (pv 3)) Zac)))))))),?_⟩
  refine ⟨_,rfl,rfl,_,rfl,?_⟩
  refine ZbC (λz=>⟨(by show 1<=1000; decide),k0 z⟩) (λhb=>?_)
  refine ⟨_,rfl,_,rfl,t,b,rfl,?_⟩
  obtain ⟨c,ec,c0,cl,fc,e,l1,l2⟩:=Zpi (t:=t) hb
  refine ⟨_,rfl,_,_,rfl,rfl,_,rfl,?_⟩
  refine Za3 (λhn=>?_) (λhn=>?_)
  · refine ⟨_,rfl,_,rfl,?_⟩
    have ec':c = -(Int.gcd t b:Int):=by rw[ec,if_pos hn]
    refine ⟨_,rfl,_,rfl,_,_,rfl,rfl,(by rw[<-ec']; exact ⟨c0,⋯⟩),_,rfl,_,rfl,_,_,rfl,rfl,(by rw[<-ec']; exact ⟨c0,⋯⟩),(by show 2<=sizeLine; decide),λr hr'=>?_⟩
    rw[<-ec']
    exact k hb r _ _ hr' fc e l1 l2
  · have ec':c=(Int.gcd t b:Int):=by rw[ec,if_neg hn]
    refine ⟨_,rfl,_,rfl,_,_,rfl,rfl,(by rw[<-ec']; exact ⟨c0,⋯⟩),_,rfl,_,rfl,_,_,rfl,rfl,(by rw[<-ec']; exact ⟨c0,⋯⟩),(by show 2<=sizeLine; decide),λr hr'=>?_⟩
    rw[<-ec']
    exact k hb r _ _ hr' fc e l1 l2
theorem ZhT{CF cN:Addr}{tk:Tok}(h:HereD K CF "number" "Fractions.number" ZaO #[.int 1 tk]) (c:ExcC K mg "NoNumber" cN) (h_divisor:Has P w K mg base "divisor" 1 ["one", "other"] ZaU):HasMX P w K mg base CF "number" 2 ["self", "top", "bottom"] [.int 1] (Zdi cN) :=
  h.hasMX (ds:=[.int 1 tk]) (.cons ⟨_,rfl⟩ .nil) (λf fd T F=>F.binds λ_ _ _ _ _ _ us hl=>by obtain ⟨_,_,rfl⟩:=ZdM (show us.length=2 by simpa using hl); exact ⟨_,rfl,rfl⟩) λf fd T F=>ZhS F c h_divisor
end
theorem Zpj{p t b u v r:Int}(hp:2<=p)(h:(1:Int)=b*u+p*v)(hr:r=t*u%p):0<=r/\r<p/\p ∣ r*b-t:=by
  subst hr
  refine ⟨Wd _ ⋯,Wt _ ⋯,?_⟩
  have e:=Int.emod_add_mul_ediv (t*u) p
  have e1:t*u%p=t*u-p*(t*u/p):=by omega
  refine ⟨-(t*v)-(t*u/p)*b,?_⟩
  rw[e1]
  have e2:t=t*b*u+t*p*v:=by
    have:=congrArg (t * ·) h
    simp only[U2,Int.mul_add] at this
    rw[Qn,Qn]; exact this
  generalize t*u/p=k at *
  rw[Int.sub_mul,Int.mul_sub,Wq,Qn p k b]
  have e3:t*u*b=t*b*u:=by rw[Qn,Ql u b,<-Qn]
  have e4:p*(t*v)=t*p*v:=by rw[<-Qn,Ql p t]
  omega
inductive Zbu (CR cN:Addr) (vs:List V) (H:Hp) (Q:VK) (E:XK):Prop
  | mk (s:Addr) (p t b:Int) (_:vs=[.ref s,.int t,.int b]) (_:ReA CR p H s) (_:M2.Prm p) (_:p<1000000) (_:t.natAbs<=10^140) (_:b.natAbs<=10^100) (_:(p ∣ b->E (.ref cN) none H)) (_:(¬p ∣ b->∀(H':Hp) (r:Int),Same H H'->0<=r->r<p->p ∣ r*b-t->Q (.int r) H')):Zbu CR cN vs H Q E
section
variable{P:Program}{w:World}{K:PySem.W.Frag}{mg:Str->Option Value}{base:Heap}
theorem Zfk:FnScope ["self", "top", "bottom"] ["self", "top", "bottom"] (Zag Zbb):=‹2›
theorem Zfl{CR cN:Addr}{f T:Addr}{fd:FuncData}{items:Array Value}(F:FunD K "number" "Rests.number" Zbb f fd T items) (cl:Cls K CR) (nP:NoAttr K CR "prime") (c:ExcC K mg "NoNumber" cN) (h_shares:Has P w K mg base "shares" 2 ["one", "other"] ZcZ):FnOk P w K mg base (CXx P w) 3 f fd ["self", "top", "bottom"] (Zbu CR cN):=by
  refine F.okx Zfk (λvs H Q E h=>?_) (λcdv A outer s H vs Q E hr h=>?_)
  · obtain ⟨_,_,_,_,rfl,_⟩:=h
    rfl
  obtain ⟨sr,p,t,b,rfl,⟨dx,hs⟩,pr,lp,lt,lb,k0,k⟩:=h
  have h2:=pr.1
  refine ⟨_,(Zab (ZaC (Zaq Zbh (Zal ZaS (pv 2) (ZeZ (pv 0) rfl)) Zad (Zap _)) (Zae (Zcs c Ze3 rfl (by rfl) (Zaa Zbe Zac))) Zat)
    (Zae (Zaj (Zal ZaS (Zal ZaB (pv 1) (Zar Zan (Zao h_shares hr (by rfl) (Zaa (pv 2) (Zaa (ZeZ (pv 0) rfl) Zac))) Zad (λ_ _=>rfl))) (ZeZ (pv 0) rfl))))),?_⟩
  refine ⟨_,rfl,_,rfl,sr,CR,dx,_,_,rfl,hs,cl,nP,ZbT p,_,_,rfl,rfl,(show p≠0 by omega),rfl,_,rfl,?_⟩
  refine ZbC (λz=>⟨(by show 1<=1000; decide),k0 ((M2.fmod_dvd ⋯).mp z)⟩) (λhb=>?_)
  have hb':¬p ∣ b:=λz=>hb ((M2.fmod_dvd ⋯).mpr z)
  have g1:=M2.prm_gcd pr hb'
  refine ⟨_,rfl,_,rfl,_,rfl,sr,CR,dx,_,_,rfl,hs,cl,nP,ZbT p,b,p,rfl,lb,⋯,λq H1 u v S hq e bu bv=>?_⟩
  refine ⟨_,_,_,_,rfl,rfl,SqT.of hq,rfl,_,_,rfl,rfl,ZbF ⋯ ⋯,_,rfl,sr,CR,dx,_,_,rfl,S _ _ hs,cl,nP,ZbT p,_,_,rfl,rfl,(show p≠0 by omega),?_⟩
  rw[g1] at e
  obtain ⟨r0,r1,r2⟩:=Zpj (p:=p) (t:=t) (b:=b) (r:=t*u%p) h2 e rfl
  show Q (V.int ((t*u).fmod p)) _
  rw[Qy _ ⋯]
  exact k hb' H1 _ S r0 r1 r2
theorem Zjk{CR cN:Addr}{tk:Tok}(h:HereD K CR "number" "Rests.number" Zbb #[.int 1 tk]) (cl:Cls K CR) (nP:NoAttr K CR "prime") (c:ExcC K mg "NoNumber" cN) (h_shares:Has P w K mg base "shares" 2 ["one", "other"] ZcZ):HasMX P w K mg base CR "number" 3 ["self", "top", "bottom"] [] (Zbu CR cN) :=
  h.hasMX (ds:=[]) .nil (λf fd T F=>F.binds λ_ _ _ _ _ _ us hl=>by obtain ⟨_,_,_,rfl⟩:=Zdq (show us.length=3 by simpa using hl); exact ⟨_,rfl,rfl⟩) λf fd T F=>Zfl F cl nP c h_shares
theorem ZhU{CR cN:Addr}{tk:Tok}(h:HereD K CR "number" "Rests.number" Zbb #[.int 1 tk]) (cl:Cls K CR) (nP:NoAttr K CR "prime") (c:ExcC K mg "NoNumber" cN) (h_shares:Has P w K mg base "shares" 2 ["one", "other"] ZcZ):HasMX P w K mg base CR "number" 3 ["self", "top", "bottom"] [.int 1] (Zbu CR cN) :=
  h.hasMX (ds:=[.int 1 tk]) (.cons ⟨_,rfl⟩ .nil) (λf fd T F=>F.binds λ_ _ _ _ _ _ us hl=>by obtain ⟨_,_,rfl⟩:=ZdM (show us.length=2 by simpa using hl); exact ⟨_,rfl,rfl⟩) λf fd T F=>Zfl F cl nP c h_shares
end
inductive Zed (K:PySem.W.Frag) (CF:Addr) (vs:List V) (H:Hp) (Q:VK) (zE:XK):Prop
  | mk (s p q:Addr) (a1 b1 a2 b2:Int) (_:vs=[.ref s,.ref p,.ref q]) (_:FrA CF H s) (_:SqT K H p [.int a1,.int b1]) (_:SqT K H q [.int a2,.int b2]) (_:Fc a1 b1) (_:Fc a2 b2) (_:Bits 1000000 a1) (_:Bits 4000 b1) (_:Bits 1000000 a2) (_:Bits 4000 b2) (_:∀(t:Addr) (H':Hp) (x y:Int),Same H H'->H' t=some (.tup [.int x,.int y])->H t=none->Fc x y->x*(b1*b2)=(a1*b2+(-a2)*b1)*y->Q (.ref t) H'):Zed K CF vs H Q zE
section
variable{P:Program}{w:World}{K:PySem.W.Frag}{mg:Str->Option Value}{base:Heap}
theorem ZdD:FnScope ["self", "one", "other"] ["self", "one", "other"] (Zag Zbr):=‹2›
theorem Zjl{CF:Addr}(h:HereM K CF "minus" "Fractions.minus" Zbr) (cl:Cls K CF) (hM:HasM P w K mg base CF "plus" 2 ["self", "one", "other"] [] (ZdT K CF)):HasM P w K mg base CF "minus" 3 ["self", "one", "other"] [] (Zed K CF):=by
  refine h.hasM (λf fd F=>F.binds λ_ _ _ _ _ _ us hl=>by obtain ⟨_,_,_,rfl⟩:=Zdq hl; exact rfl) λf fd F=>F.ok ZdD (λvs H Q E h=>?_) (λcdv A outer s H vs Q E hr h=>?_)
  · obtain ⟨_,_,_,_,_,_,_,rfl,_⟩:=h
    rfl
  obtain ⟨sf,p,q,a1,b1,a2,b2,rfl,⟨dx,hs⟩,hp,hq,f1,f2,la1,lb1,la2,lb2,k⟩:=h
  refine ⟨_,(Zae (Zaj (Zbz (pv 0) hr (Zaa (pv 1) (Zaa (ZaY (Zaa (Zf0 ZdN (Zar Zan (pv 2) Zad (λ_ _=>rfl))) (Zaa (Zar Zan (pv 2) Zad (λ_ _=>rfl)) Zac))) Zac))))),?_⟩
  refine ⟨_,rfl,_,_,_,_,_,_,_,rfl,hs,cl,hM,rfl,_,rfl,_,rfl,_,_,_,_,rfl,rfl,hq,rfl,_,rfl,_,rfl,_,_,_,_,rfl,rfl,hq,rfl,(by show 2<=sizeLine; decide),λr hr'=>?_⟩
  have S:=Zah hr' (.tup [.int (-a2),.int b2])
  refine ⟨sf,p,r,a1,b1,-a2,b2,rfl,⟨dx,S _ _ hs⟩,S.tup hp,SqT.of Zaf,f1,⟨f2.pos,by rw[Int.neg_gcd]; exact f2.cop⟩,la1,lb1,la2.le ⋯,lb2,λt H' x y S' ht hn fc e=>?_⟩
  exact k t H' x y (S.trans S') ht (by
    cases z:H t with
    | none=>rfl
    | some o=>rw[S t o z] at hn; cases hn) fc e
end
section
variable{P:Program}{w:World}{K:PySem.W.Frag}{mg:Str->Option Value}{base:Heap}
theorem ZfJ:FnScope ["self", "one", "other"] ["self", "one", "other"] (Zag Zcw):=‹2›
theorem Zks{CR:Addr}(h:HereM K CR "minus" "Rests.minus" Zcw) (cl:Cls K CR) (nP:NoAttr K CR "prime"):HasM P w K mg base CR "minus" 1 ["self", "one", "other"] [] (Zfj CR λa b=>a-b):=by
  refine h.hasM (λf fd F=>F.binds λ_ _ _ _ _ _ us hl=>by obtain ⟨_,_,_,rfl⟩:=Zdq hl; exact rfl) λf fd F=>F.ok ZfJ (λvs H Q E h=>?_) (λcdv A outer s H vs Q E hr h=>?_)
  · obtain ⟨_,_,_,_,rfl,_⟩:=h
    rfl
  obtain ⟨sr,p,a,b,rfl,⟨dx,hs⟩,h2,la,lb,k⟩:=h
  refine ⟨_,(Zae (Zaj (Zal ZaS (Zal Zb4 (pv 1) (pv 2)) (ZeZ (pv 0) rfl)))),?_⟩
  refine ⟨_,rfl,_,rfl,_,_,rfl,rfl,_,rfl,sr,CR,dx,_,_,rfl,hs,cl,nP,ZbT p,_,_,rfl,rfl,(show p≠0 by omega),?_⟩
  show Q (V.int ((a-b).fmod p)) _
  rw[Qy _ ⋯]
  exact k
end
inductive Zgp (K:PySem.W.Frag) (cN:Addr) (vs:List V) (H:Hp) (Q:VK) (E:XK):Prop
  | mk (s p:Addr) (a b:Int) (_:vs=[.ref s,.ref p]) (_:SqT K H p [.int a,.int b]) (_:Fc a b) (_:(a=0->E (.ref cN) none H)) (_:(a≠0->∀(r:Addr) (x y:Int),H r=none->Fc x y->x*a=b*y->x.natAbs=b.natAbs->y.natAbs=a.natAbs->Q (.ref r) (upd H r (.tup [.int x,.int y])))):Zgp K cN vs H Q E
section
variable{P:Program}{w:World}{K:PySem.W.Frag}{mg:Str->Option Value}{base:Heap}
theorem Zee:FnScope ["self", "one"] ["self", "one"] (Zag ZbH):=‹2›
theorem ZlX{CF cN:Addr}(h:HereM K CF "back" "Fractions.back" ZbH) (c_NoNumber:ExcC K mg "NoNumber" cN):HasMX P w K mg base CF "back" 1 ["self", "one"] [] (Zgp K cN):=by
  refine h.hasMX (λf fd F=>F.binds λ_ _ _ _ _ _ us hl=>by obtain ⟨_,_,rfl⟩:=ZdM hl; exact rfl) λf fd F=>F.okx Zee (λvs H Q E h=>?_) (λcdv A outer s H vs Q E hr h=>?_)
  · obtain ⟨_,_,_,_,rfl,_⟩:=h
    rfl
  obtain ⟨sf,p,a,b,rfl,hp,fc,k0,k⟩:=h
  have hb:=fc.pos
  refine ⟨_,(Zab (ZaC (Zaq Zbh (Zar Zan (pv 1) Zad (λ_ _=>rfl)) Zad (Zap _)) (Zae (Zcs c_NoNumber Ze3 rfl (by rfl) (Zaa Zbe Zac))) Zat)
    (Zab (ZaC (Zaq Zca (Zar Zan (pv 1) Zad (λ_ _=>rfl)) Zad (Zap _)) (Zae (Zaj (ZaY (Zaa (Zf0 ZdN (Zar Zan (pv 1) Zad (λ_ _=>rfl))) (Zaa (Zf0 ZdN (Zar Zan (pv 1) Zad (λ_ _=>rfl))) Zac))))) Zat)
    (Zae (Zaj (ZaY (Zaa (Zar Zan (pv 1) Zad (λ_ _=>rfl)) (Zaa (Zar Zan (pv 1) Zad (λ_ _=>rfl)) Zac))))))),?_⟩
  refine ⟨_,rfl,_,_,_,_,rfl,rfl,hp,rfl,rfl,_,rfl,?_⟩
  refine ZbC (λz=>⟨(by show 1<=1000; decide),k0 z⟩) (λha=>?_)
  refine ⟨_,rfl,_,_,_,_,rfl,rfl,hp,rfl,_,_,rfl,rfl,_,rfl,?_⟩
  refine Za3 (λhn=>?_) (λhn=>?_)
  · refine ⟨_,rfl,_,_,_,_,rfl,rfl,hp,rfl,_,rfl,_,rfl,_,_,_,_,rfl,rfl,hp,rfl,_,rfl,(by show 2<=sizeLine; decide),λr hr'=>?_⟩
    refine k ha r (-b) (-a) hr' ⟨⋯,?_⟩ (by rw[Int.neg_mul,Wq]) ⋯ ⋯
    rw[Int.neg_gcd,Int.gcd_neg,Uw]; exact fc.cop
  · refine ⟨_,rfl,_,_,_,_,rfl,rfl,hp,rfl,_,rfl,_,_,_,_,rfl,rfl,hp,rfl,(by show 2<=sizeLine; decide),λr hr'=>?_⟩
    exact k ha r b a hr' ⟨⋯,by rw[Uw]; exact fc.cop⟩ rfl rfl rfl
end
inductive Zgq (CR cN:Addr) (vs:List V) (H:Hp) (Q:VK) (E:XK):Prop
  | mk (s:Addr) (p a:Int) (_:vs=[.ref s,.int a]) (_:ReA CR p H s) (_:M2.Prm p) (_:p<1000000) (_:a.natAbs<=10^100) (_:(p ∣ a->E (.ref cN) none H)) (_:(¬p ∣ a->∀(H':Hp) (r:Int),Same H H'->0<=r->r<p->p ∣ r*a-1->Q (.int r) H')):Zgq CR cN vs H Q E
section
variable{P:Program}{w:World}{K:PySem.W.Frag}{mg:Str->Option Value}{base:Heap}
theorem Zgr:FnScope ["self", "one"] ["self", "one"] (Zag ZcV):=‹2›
theorem ZlY{CR cN:Addr}(h:HereM K CR "back" "Rests.back" ZcV) (cl:Cls K CR) (hN:HasMX P w K mg base CR "number" 3 ["self", "top", "bottom"] [] (Zbu CR cN)):HasMX P w K mg base CR "back" 4 ["self", "one"] [] (Zgq CR cN):=by
  refine h.hasMX (λf fd F=>F.binds λ_ _ _ _ _ _ us hl=>by obtain ⟨_,_,rfl⟩:=ZdM hl; exact rfl) λf fd F=>F.okx Zgr (λvs H Q E h=>?_) (λcdv A outer s H vs Q E hr h=>?_)
  · obtain ⟨_,_,_,rfl,_⟩:=h
    rfl
  obtain ⟨sr,p,a,rfl,⟨dx,hs⟩,pr,lp,la,k0,k⟩:=h
  refine ⟨_,(Zae (Zaj (Zbl (pv 0) ZhH hr (Zaa Zad (Zaa (pv 1) Zac))))),?_⟩
  exact ⟨_,rfl,sr,CR,dx,_,_,_,_,rfl,hs,cl,hN,Zds p ∅,_,rfl,sr,p,1,a,rfl,⟨dx,hs⟩,pr,lp,∅,la,k0,k⟩
end
inductive Zef (K:PySem.W.Frag) (CF:Addr) (vs:List V) (H:Hp) (Q:VK) (zE:XK):Prop
  | mk (s p:Addr) (a b:Int) (_:vs=[.ref s,.ref p]) (_:SqT K H p [.int a,.int b]) (_:Q (.bl (decide (a=0))) H):Zef K CF vs H Q zE
section
variable{P:Program}{w:World}{K:PySem.W.Frag}{mg:Str->Option Value}{base:Heap}
theorem ZcM:FnScope ["self", "one"] ["self", "one"] (Zag Za7):=‹2›
theorem Zjm{CF:Addr}(h:HereM K CF "is_nought" "Fractions.is_nought" Za7):HasM P w K mg base CF "is_nought" 1 ["self", "one"] [] (Zef K CF):=by
  refine h.hasM (λf fd F=>F.binds λ_ _ _ _ _ _ us hl=>by obtain ⟨_,_,rfl⟩:=ZdM hl; exact rfl) λf fd F=>F.ok ZcM (λvs H Q E h=>?_) (λcdv A outer s H vs Q E hr h=>?_)
  · obtain ⟨_,_,_,_,rfl,_⟩:=h
    rfl
  obtain ⟨sf,p,a,b,rfl,hp,k⟩:=h
  refine ⟨_,(Zae (Zaj (ZaM Zbh (Zar Zan (pv 1) Zad (λ_ _=>rfl)) Zad (Zap _)))),?_⟩
  refine ⟨_,rfl,_,_,_,_,rfl,rfl,hp,rfl,rfl,?_⟩
  rw[ZhC]
  exact k
end
inductive Zeg (vs:List V) (H:Hp) (Q:VK) (zE:XK):Prop
  | mk (s:Addr) (a:Int) (_:vs=[.ref s,.int a]) (_:Q (.bl (decide (a=0))) H):Zeg vs H Q zE
section
variable{P:Program}{w:World}{K:PySem.W.Frag}{mg:Str->Option Value}{base:Heap}
theorem ZdU:FnScope ["self", "one"] ["self", "one"] (Zag Zbt):=‹2›
theorem Zjn{CR:Addr}(h:HereM K CR "is_nought" "Rests.is_nought" Zbt):HasM P w K mg base CR "is_nought" 1 ["self", "one"] [] Zeg:=by
  refine h.hasM (λf fd F=>F.binds λ_ _ _ _ _ _ us hl=>by obtain ⟨_,_,rfl⟩:=ZdM hl; exact rfl) λf fd F=>F.ok ZdU (λvs H Q E h=>?_) (λcdv A outer s H vs Q E hr h=>?_)
  · obtain ⟨_,_,rfl,_⟩:=h
    rfl
  obtain ⟨sf,a,rfl,k⟩:=h
  refine ⟨_,(Zae (Zaj (ZaM Zbh (pv 1) Zad (Zap _)))),?_⟩
  refine ⟨_,rfl,rfl,?_⟩
  rw[ZhC]
  exact k
end
end My
namespace My
open PySem L2 PyProof.Rows
theorem Zfm(N:Int){D:Int}(hD:0<D):(Rat.divInt N D).num*D=N*(Rat.divInt N D).den:=by
  have h:=Qs (Rat.divInt N D)
  have hd:=(Za8 (Rat.divInt N D)).pos
  have:=(W5 (n₁:=(Rat.divInt N D).num) (d₁:=((Rat.divInt N D).den:Int)) (n₂:=N) (d₂:=D) ⋯ ⋯).mp h
  exact this
theorem ZhV{a b c:Int}(h:a ∣ b*c)(g:Int.gcd a b=1):a ∣ c:=by
  rw[<-Wz] at h ⊢
  rw[Qq] at h
  exact Nat.Coprime.dvd_of_dvd_mul_left g h
theorem ZbU(N:Int){D:Int}(hD:0<D):((Rat.divInt N D).den:Int) ∣ D/\(Rat.divInt N D).num ∣ N:=by
  have e:=Zfm N hD
  have c:=(Za8 (Rat.divInt N D)).cop
  generalize (Rat.divInt N D).num=n at *
  generalize ((Rat.divInt N D).den:Int)=d at *
  refine ⟨?_,?_⟩
  · refine ZhV (b:=n) ⟨N,?_⟩ (by rw[Uw]; exact c)
    rw[e,Ql]
  · refine ZhV (b:=d) ⟨D,?_⟩ c
    rw[e,Ql]
theorem ZaZ{a b:Int}(h:a ∣ b)(hb:b≠0):a.natAbs<=b.natAbs:=Wy ⋯ (Wz.mpr h)
theorem Zdj{n:Nat}{a b:Int}(h:a ∣ b)(hb:Bits n b)(hz:b=0->a=0):Bits n a:=by
  by_cases z:b=0
  · rw[hz z]; exact Qk _
  · exact hb.le (ZaZ h z)
theorem ZeJ(N:Int){D:Int}(hD:0<D)(z:N=0):(Rat.divInt N D).num=0:=by
  subst z
  have e:=Zfm 0 hD
  rw[Int.zero_mul] at e
  rcases Int.mul_eq_zero.mp e with h | h
  · exact h
  · omega
def KdX(CF CR:Addr)(κ:KX)(H:Hp)(s:Addr):Prop:=match κ with
  | .q=>FrA CF H s
  | .r p _=>ReA CR p H s
theorem KdX.same{CF CR:Addr}{κ:KX}{H H':Hp}{k:Addr}(h:KdX CF CR κ H k)(S:Same H H'):KdX CF CR κ H' k:=by
  cases κ with
  | q=>obtain ⟨dx,h⟩:=h; exact ⟨dx,S _ _ h⟩
  | r p hp=>obtain ⟨dx,h⟩:=h; exact ⟨dx,S _ _ h⟩
theorem Zov{CF CR:Addr}{p:Int}{H:Hp}{s:Addr}(h:KdA CF CR p H s):∃κ:KX,κ.P=p/\KdX CF CR κ H s:=by
  rcases h with ⟨rfl,h⟩ | ⟨pr,lp,h⟩
  · exact ⟨.q,rfl,h⟩
  · have h2:=pr.1
    have e:((p.toNat:Nat):Int)=p:=by omega
    refine ⟨.r p.toNat ⟨by rw[e]; exact pr,⋯⟩,e,?_⟩
    show ReA CR ((p.toNat:Nat):Int) H s
    rw[e]; exact h
abbrev B1(κ:KX)(x:κ.F):Prop:=Bd κ 1000000 4000 x
theorem Za0{p:Nat}(h:PrN p)(x:Fin p):((x.val:Int)).natAbs<=10^150:=by
  have:=x.isLt
  have:=h.lt
  exact Q0 (show _<=1000000 by omega) ∅
def ZlZ(P:Program)(w:World)(K:PySem.W.Frag)(mg:Str->Option Value)(base:Heap)(CF CR:Addr)(m:Str)(g:(κ:KX)->κ.F->κ.F->κ.F):Prop :=
  ∀(κ:KX) (H:Hp) (s:Addr),KdX CF CR κ H s->∃C dx fs ps dvs sp,H s=some (.ins C dx fs)/\Cls K C/\HasM P w K mg base C m 2 ps dvs sp/\fs.lookup m=none/\dvs=[] ∧
    ∀(H':Hp) (u v:V) (x y:κ.F) (Q:VK),Same H H'->NR κ H' u x->NR κ H' v y->B1 κ x->B1 κ y->(∀t H'',Same H' H''->NR κ H'' t (g κ x y)->Q t H'')->sp [.ref s,u,v] H' Q E0
end My
namespace My
open PySem L2 PyProof.Rows
section
variable{P:Program}{w:World}{K:PySem.W.Frag}{mg:Str->Option Value}{base:Heap}{CF CR:Addr}
theorem Zkt(kd:Kd K mg CF CR)(hF:HasM P w K mg base CF "plus" 2 ["self", "one", "other"] [] (ZdT K CF)) (hR:HasM P w K mg base CR "plus" 2 ["self", "one", "other"] [] (Zfj CR λa b=>a+b)):ZlZ P w K mg base CF CR "plus" (λ_ x y=>x+y):=by
  intro κ H s hk
  cases κ with
  | q =>
    obtain ⟨dx,h⟩:=hk
    refine ⟨CF,dx,[],_,_,_,h,kd.clF,hF,rfl,rfl,λH' u v x y Q S hu hv bx by' k=>?_⟩
    obtain ⟨a,rfl,hu⟩:=hu
    obtain ⟨b,rfl,hv⟩:=hv
    refine ⟨s,a,b,_,_,_,_,rfl,⟨dx,S _ _ h⟩,SqT.of hu,SqT.of hv,Za8 x,Za8 y,bx.1,bx.2,by'.1,by'.2,λt H'' n d S' ht hn fc e=>?_⟩
    obtain ⟨e1,e2⟩:=Zkp (x:=x) (y:=y) fc e
    refine k (.ref t) H'' S' ⟨t,rfl,?_⟩
    show H'' t=some (.tup [.int (x+y).num,.int ((x+y).den:Int)])
    rw[e1,e2]
    exact ht
  | r p hp =>
    obtain ⟨dx,h⟩:=hk
    refine ⟨CR,dx,fsR p,_,_,_,h,kd.clR,hR,Zds _ ∅,rfl,λH' u v x y Q S hu hv _ _ k=>?_⟩
    have hu:u = .int x.val:=hu
    have hv:v = .int y.val:=hv
    subst hu hv
    refine ⟨s,p,_,_,rfl,⟨dx,S _ _ h⟩,by have:=hp.two; omega,Za0 hp x,Za0 hp y,k _ H' (Same.refl _) ?_⟩
    show V.int (((x.val:Int)+y.val)%p)=V.int ((Fin.val (x+y):Nat):Int)
    have e:Fin.val (x+y)=(x.val+y.val)%p:=Fin.val_add x y
    rw[e,Wb,U0]
end
section
variable{P:Program}{w:World}{K:PySem.W.Frag}{mg:Str->Option Value}{base:Heap}{CF CR:Addr}
theorem Zjo(kd:Kd K mg CF CR)(hF:HasM P w K mg base CF "times" 2 ["self", "one", "other"] [] (Zec K CF)) (hR:HasM P w K mg base CR "times" 2 ["self", "one", "other"] [] (Zfj CR λa b=>a*b)):ZlZ P w K mg base CF CR "times" (λ_ x y=>x*y):=by
  intro κ H s hk
  cases κ with
  | q =>
    obtain ⟨dx,h⟩:=hk
    refine ⟨CF,dx,[],_,_,_,h,kd.clF,hF,rfl,rfl,λH' u v x y Q S hu hv bx by' k=>?_⟩
    obtain ⟨a,rfl,hu⟩:=hu
    obtain ⟨b,rfl,hv⟩:=hv
    refine ⟨s,a,b,_,_,_,_,rfl,⟨dx,S _ _ h⟩,SqT.of hu,SqT.of hv,Za8 x,Za8 y,bx.1,bx.2,by'.1,by'.2,λt H'' n d S' ht hn fc e=>?_⟩
    obtain ⟨e1,e2⟩:=ZhR (x:=x) (y:=y) fc e
    refine k (.ref t) H'' S' ⟨t,rfl,?_⟩
    show H'' t=some (.tup [.int (x*y).num,.int ((x*y).den:Int)])
    rw[e1,e2]
    exact ht
  | r p hp =>
    obtain ⟨dx,h⟩:=hk
    refine ⟨CR,dx,fsR p,_,_,_,h,kd.clR,hR,Zds _ ∅,rfl,λH' u v x y Q S hu hv _ _ k=>?_⟩
    have hu:u = .int x.val:=hu
    have hv:v = .int y.val:=hv
    subst hu hv
    refine ⟨s,p,_,_,rfl,⟨dx,S _ _ h⟩,by have:=hp.two; omega,Za0 hp x,Za0 hp y,k _ H' (Same.refl _) ?_⟩
    show V.int (((x.val:Int)*y.val)%p)=V.int ((Fin.val (x*y):Nat):Int)
    have e:Fin.val (x*y)=(x.val*y.val)%p:=Fin.val_mul x y
    rw[e,Wb,Wl]
end
end My
namespace L2
open PySem PySem.Spec PyProof.Rows
section
variable{X:Cx}
theorem ZiF:OpR X (binaryOp .FloorDiv) (rI (λ_ j=>j≠0/\Bits 8000 j) λi j => .int (i.fdiv j)):=opI λ_ _ _ _ _ _ _ hc q=>floordiv_int hc.1 q (.inl (PyProof.noPylong_of_log2 (U4 (hc.2.log hc.1) ∅)))
end
end L2
namespace My
open PySem L2 PyProof.Rows
section
variable{κ:KX}
def RowsX(κ:KX)(H:Hp)(as:List Addr)(R:List (List κ.F)):Prop:=as.length=R.length/\∀(i:Nat) a f,as[i]?=some a->R[i]?=some f->∃xs,H a=some (.lst xs)/\AllG (NR κ H) xs f
def AllR(Pr:κ.F->Prop)(R:List (List κ.F)):Prop:=∀f∈R,∀x∈f,Pr x
theorem RowsX.same{H H':Hp}{as:List Addr}{R:List (List κ.F)}(h:RowsX κ H as R)(S:Same H H'):RowsX κ H' as R :=
  ⟨h.1,λi a f ha hf=>let ⟨xs,hx,al⟩:=h.2 i a f ha hf; ⟨xs,S _ _ hx,al.mono λ_ _ n=>n.same S⟩⟩
theorem RowsX.off{H H':Hp}{t:Addr}{as:List Addr}{R:List (List κ.F)}{ys:List V}(h:RowsX κ H as R)(n:t∉as)(ht:H t=some (.lst ys))(O:Off [t] H H'):RowsX κ H' as R :=
  ⟨h.1,λi a f ha hf=>let ⟨xs,hx,al⟩:=h.2 i a f ha hf; ⟨xs,O _ _ (λm=>n (by rw[<-Q6.mp m]; exact Q9 ha)) hx,al.mono λ_ _ n=>n.off ht O⟩⟩
theorem RowsX.get{H:Hp}{as:List Addr}{R:List (List κ.F)}(h:RowsX κ H as R){i:Nat}(hi:i<R.length):∃a xs,as[i]?=some a/\H a=some (.lst xs)/\AllG (NR κ H) xs R[i]:=by
  have l:=h.1
  obtain ⟨xs,hx,al⟩:=h.2 i (as[i]'⋯) R[i] (Q2 ⋯) (Q2 hi)
  exact ⟨_,xs,Q2 ⋯,hx,al⟩
theorem RowsX.set{H:Hp}{as:List Addr}{R:List (List κ.F)}(h:RowsX κ H as R)(i:Nat){a:Addr}{xs:List V}{f:List κ.F}(hx:H a=some (.lst xs))(al:AllG (NR κ H) xs f):RowsX κ H (as.set i a) (R.set i f):=by
  have l:=h.1
  refine ⟨by rw[W7,W7,l],λj b g hb hg=>?_⟩
  rw[Wj] at hb hg
  split at hb
  · rename_i e
    rw[if_pos e] at hg
    split at hb
    · rename_i hl
      rw[if_pos ⋯] at hg
      cases hb; cases hg; exact ⟨xs,hx,al⟩
    · cases hb
  · rename_i e
    rw[if_neg e] at hg
    exact h.2 j b g hb hg
inductive Tn (κ:KX) where
  | swap (i j:Int)
  | scale (i:Int) (c:κ.F)
  | add (i j:Int) (c:κ.F)
def TR(κ:KX)(H:Hp)(v:V)(t:Tn κ):Prop:=match t with
  | .swap i j=>∃a,v = .ref a/\H a=some (.tup [.str "swap", .int i,.int j])
  | .scale i c=>∃a u,v = .ref a/\H a=some (.tup [.str "scale", .int i,u])/\NR κ H u c
  | .add i j c=>∃a u,v = .ref a/\H a=some (.tup [.str "add", .int i,.int j,u])/\NR κ H u c
theorem TR.same{H H':Hp}{v:V}{t:Tn κ}(h:TR κ H v t)(S:Same H H'):TR κ H' v t:=by
  cases t with
  | swap i j=>obtain ⟨a,e,h⟩:=h; exact ⟨a,e,S _ _ h⟩
  | scale i c=>obtain ⟨a,u,e,h,n⟩:=h; exact ⟨a,u,e,S _ _ h,n.same S⟩
  | add i j c=>obtain ⟨a,u,e,h,n⟩:=h; exact ⟨a,u,e,S _ _ h,n.same S⟩
theorem TR.off{H H':Hp}{t:Addr}{ys:List V}{v:V}{x:Tn κ}(h:TR κ H v x)(ht:H t=some (.lst ys))(O:Off [t] H H'):TR κ H' v x:=by
  have na:∀a zs,H a=some (.tup zs)->a∉[t]:=λa zs q m=>by rw[Q6.mp m,ht] at q; cases q
  cases x with
  | swap i j=>obtain ⟨a,e,h⟩:=h; exact ⟨a,e,O _ _ (na _ _ h) h⟩
  | scale i c=>obtain ⟨a,u,e,h,n⟩:=h; exact ⟨a,u,e,O _ _ (na _ _ h) h,n.off ht O⟩
  | add i j c=>obtain ⟨a,u,e,h,n⟩:=h; exact ⟨a,u,e,O _ _ (na _ _ h) h,n.off ht O⟩
def Tn.ok(n:Nat):Tn κ->Prop
  | .swap i j=>(0<=i/\i<n)/\(0<=j/\j<n)/\i≠j
  | .scale i c=>(0<=i/\i<n)/\c≠0
  | .add i j _=>(0<=i/\i<n)/\(0<=j/\j<n)/\i≠j
def Tn.bd:Tn κ->Prop
  | .swap _ _=>True
  | .scale _ c=>B1 κ c
  | .add _ _ c=>B1 κ c
noncomputable def doT(t:Tn κ)(R:List (List κ.F)):List (List κ.F):=match t with
  | .swap i j=>(R.set i.toNat (R.getD j.toNat [])).set j.toNat (R.getD i.toNat [])
  | .scale i c=>R.set i.toNat ((R.getD i.toNat []).map (c * ·))
  | .add i j c=>R.set i.toNat (List.zipWith (· + ·) (R.getD i.toNat []) ((R.getD j.toNat []).map (c * ·)))
theorem Zc0(t:Tn κ)(R:List (List κ.F)):(doT t R).length=R.length:=by
  cases t <;> simp[doT]
end
inductive Zbc (CF CR:Addr) (vs:List V) (H:Hp) (Q:VK) (zE:XK):Prop
  | mk (κ:KX) (s r:Addr) (cv:V) (c:κ.F) (xs:List V) (f:List κ.F) (_:vs=[.ref s,cv,.ref r]) (_:KdX CF CR κ H s) (_:NR κ H cv c) (_:H r=some (.lst xs)) (_:AllG (NR κ H) xs f) (_:B1 κ c) (_:(∀x∈f,B1 κ x)) (_:f.length<=1000) (_:∀(H':Hp) (D:Addr) (ys:List V),Same H H'->H D=none->H' D=some (.lst ys)->AllG (NR κ H') ys (f.map (c * ·))->Q (.ref D) H'):Zbc CF CR vs H Q zE
inductive Zc1 (CF CR:Addr) (vs:List V) (H:Hp) (Q:VK) (zE:XK):Prop
  | mk (κ:KX) (s r1 r2:Addr) (xs ys:List V) (f g:List κ.F) (_:vs=[.ref s,.ref r1,.ref r2]) (_:KdX CF CR κ H s) (_:H r1=some (.lst xs)) (_:H r2=some (.lst ys)) (_:AllG (NR κ H) xs f) (_:AllG (NR κ H) ys g) (_:(∀x∈f,B1 κ x)) (_:(∀x∈g,B1 κ x)) (_:f.length<=1000) (_:∀(H':Hp) (D:Addr) (zs:List V),Same H H'->H D=none->H' D=some (.lst zs)->AllG (NR κ H') zs (List.zipWith (· + ·) f g)->Q (.ref D) H'):Zc1 CF CR vs H Q zE
theorem Zbv{p:Prop}[Decidable p]{A B:Prop}(h:p)(k:A):if decide p=true then A else B:=by rw[if_pos (decide_eq_true h)]; exact k
theorem Zb6{p:Prop}[Decidable p]{A B:Prop}(h:¬p)(k:B):if decide p=true then A else B:=by rw[if_neg (by simpa using h)]; exact k
theorem Znv{p:Prop}[Decidable p]{A B:Prop}(h:¬p)(k:A):if (!decide p)=true then A else B:=by rw[if_pos (by simpa using h)]; exact k
theorem ZmF{p:Prop}[Decidable p]{A B:Prop}(h:p)(k:B):if (!decide p)=true then A else B:=by rw[if_neg (by simpa using h)]; exact k
theorem s12:V.str "swap" ≠ V.str "scale" := by decide
theorem s13:V.str "swap" ≠ V.str "add" := by decide
theorem s21:V.str "scale" ≠ V.str "swap" := by decide
theorem s31:V.str "add" ≠ V.str "swap" := by decide
theorem s32:V.str "add" ≠ V.str "scale" := by decide
theorem ZeB{l:List Addr}(h:∀(i j:Nat) a,l[i]?=some a->l[j]?=some a->i=j):l.Nodup:=by
  refine List.pairwise_iff_getElem.mpr λi j hi hj lt e=>?_
  have:=h i j l[i] (Q2 hi) (by rw[e]; exact Q2 hj)
  omega
theorem Zhe{l:List Addr}{i:Nat}{a:Addr}(h:l.Nodup)(n:a∉l):(l.set i a).Nodup:=by
  refine ZeB λx y b hx hy=>?_
  rw[Wj] at hx hy
  split at hx
  · rename_i e1
    split at hy
    · rename_i e2; omega
    · split at hx
      · cases hx; exact absurd (Q9 hy) n
      · cases hx
  · split at hy
    · split at hy
      · cases hy; exact absurd (Q9 hx) n
      · cases hy
    · exact Zfi h hx hy
theorem Zl0{l:List Addr}{i j:Nat}{a b:Addr}(hi:l[i]?=some a)(hj:l[j]?=some b)(x:Nat):((l.set i b).set j a)[x]?=if x=j then some a else if x=i then some b else l[x]?:=by
  have li:=(Qw.mp hi).1
  have lj:=(Qw.mp hj).1
  rw[Wj]
  by_cases e:j=x
  · subst e
    rw[if_pos rfl,if_pos (by rw[W7]; exact lj),if_pos rfl]
  · rw[if_neg e,if_neg (λz=>e z.symm),Wj]
    by_cases e2:i=x
    · subst e2
      rw[if_pos rfl,if_pos li,if_pos rfl]
    · rw[if_neg e2,if_neg (λz=>e2 z.symm)]
theorem Zjp{l:List Addr}{i j:Nat}{a b:Addr}(h:l.Nodup)(hi:l[i]?=some a)(hj:l[j]?=some b):((l.set i b).set j a).Nodup:=by
  refine ZeB λx y c hx hy=>?_
  rw[Zl0 hi hj] at hx hy
  have inj:=fun {p q:Nat} {d:Addr} (h1:l[p]?=some d) (h2:l[q]?=some d)=>Zfi h h1 h2
  by_cases x1:x=j
  · rw[if_pos x1] at hx
    cases hx
    by_cases y1:y=j
    · omega
    · rw[if_neg y1] at hy
      by_cases y2:y=i
      · rw[if_pos y2] at hy; cases hy; have:=inj hi hj; omega
      · rw[if_neg y2] at hy; have:=inj hi hy; omega
  · rw[if_neg x1] at hx
    by_cases x2:x=i
    · rw[if_pos x2] at hx
      cases hx
      by_cases y1:y=j
      · rw[if_pos y1] at hy; cases hy; have:=inj hi hj; omega
      · rw[if_neg y1] at hy
        by_cases y2:y=i
        · omega
        · rw[if_neg y2] at hy; have:=inj hj hy; omega
    · rw[if_neg x2] at hx
      by_cases y1:y=j
      · rw[if_pos y1] at hy; cases hy; have:=inj hi hx; omega
      · rw[if_neg y1] at hy
        by_cases y2:y=i
        · rw[if_pos y2] at hy; cases hy; have:=inj hj hx; omega
        · rw[if_neg y2] at hy; exact inj hx hy
theorem ZiG{l:List Addr}{i j:Nat}{a b c:Addr}(hi:l[i]?=some a)(hj:l[j]?=some b)(m:c∈(l.set i b).set j a):c∈l:=by
  rcases W8 m with m | rfl
  · rcases W8 m with m | rfl
    · exact m
    · exact Q9 hj
  · exact Q9 hi
def Tn.pre{κ:KX}(R:List (List κ.F)):Tn κ->Prop
  | .swap _ _=>True
  | .scale i c=>B1 κ c/\∀x∈R.getD i.toNat [],B1 κ x
  | .add i j c=>B1 κ c/\(∀x∈R.getD i.toNat [],B1 κ x)/\∀y∈R.getD j.toNat [],B1 κ y/\B1 κ (c*y)
inductive Zgs (vs:List V) (H:Hp) (Q:VK) (zE:XK):Prop
  | mk (r:Addr) (xs:List V) (i:Int) (_:vs=[.ref r,.int i]) (_:H r=some (.lst xs)) (_:Q (.bl (decide (0<=i)&&decide (i<xs.length))) H):Zgs vs H Q zE
inductive Zeh (CF CR:Addr) (vs:List V) (H:Hp) (Q:VK) (zE:XK):Prop
  | mk (κ:KX) (s r:Addr) (xs:List V) (tv:V) (t:Tn κ) (_:vs=[.ref s,.ref r,tv]) (_:KdX CF CR κ H s) (_:H r=some (.lst xs)) (_:TR κ H tv t) (_:∀b:Bool,(b=true↔t.ok xs.length)->Q (.bl b) H):Zeh CF CR vs H Q zE
inductive Zb7 (CF CR:Addr) (vs:List V) (H:Hp) (Q:VK) (zE:XK):Prop
  | mk (κ:KX) (s r:Addr) (as:List Addr) (R:List (List κ.F)) (tv:V) (t:Tn κ) (_:vs=[.ref s,.ref r,tv]) (_:KdX CF CR κ H s) (_:H r=some (.lst (as.map V.ref))) (_:RowsX κ H as R) (_:r∉as) (_:(∀f∈R,f.length<=1000)) (_:TR κ H tv t) (_:t.ok R.length) (_:t.pre R) (_:∀(H':Hp) (as':List Addr),Off [r] H H'->H' r=some (.lst (as'.map V.ref))->RowsX κ H' as' (doT t R)->r∉as'->(as.Nodup->as'.Nodup)->(∀a∈as',a∈as\/H a=none)->Q .non H'):Zb7 CF CR vs H Q zE
def ZiH(P:Program)(w:World)(K:PySem.W.Frag)(mg:Str->Option Value)(base:Heap)(CF CR:Addr):Prop :=
  ∀(κ:KX) (H:Hp) (s:Addr),KdX CF CR κ H s->∃C dx fs ps dvs sp,H s=some (.ins C dx fs)/\Cls K C/\HasM P w K mg base C "is_nought" 2 ps dvs sp/\fs.lookup ("is_nought" : Str)=none/\dvs=[] ∧
    ∀(u:V) (x:κ.F) (Q:VK),NR κ H u x->(∀b:Bool,(b=true↔x=0)->Q (.bl b) H)->sp [.ref s,u] H Q E0
noncomputable def ZaE{κ:KX}(ts:List (Tn κ))(R:List (List κ.F)):List (List κ.F):=ts.foldl (λR t=>doT t R) R
theorem ZaP{κ:KX}(ts:List (Tn κ)):∀R:List (List κ.F),(ZaE ts R).length=R.length:=by
  induction ts with
  | nil=>exact λR=>rfl
  | cons t ts ih=>exact λR=>by show (ZaE ts (doT t R)).length=_; rw[ih,Zc0]
theorem Zcj{κ:KX}(ts:List (Tn κ))(t:Tn κ)(R:List (List κ.F)):ZaE (ts++[t]) R=doT t (ZaE ts R):=by
  unfold ZaE
  rw[List.foldl_append]
  rfl
theorem ZaD{α:Type}{R:List (List α)}{i:Nat}{f:List α}(h:R[i]?=some f):R.getD i []=f:=by rw[Q3,h]; rfl
def Wid{α:Type}(m:Nat)(R:List (List α)):Prop:=∀f∈R,f.length=m
theorem Wid.get{α:Type}{m:Nat}{R:List (List α)}(h:Wid m R){i:Nat}(hi:i<R.length):(R.getD i []).length=m:=by
  rw[ZaD (Q2 hi)]
  exact h _ (Qe hi)
theorem Wid.set{α:Type}{m i:Nat}{R:List (List α)}{f:List α}(h:Wid m R)(e:f.length=m):Wid m (R.set i f):=λg hg=>by
  rcases W8 hg with hg | rfl
  · exact h g hg
  · exact e
theorem ZdE{κ:KX}{m:Nat}{t:Tn κ}{R:List (List κ.F)}(h:Wid m R)(ok:t.ok R.length):Wid m (doT t R):=by
  cases t with
  | swap i j =>
    obtain ⟨hi,hj,_⟩:=ok
    exact (h.set (h.get ⋯)).set (h.get ⋯)
  | scale i c =>
    obtain ⟨hi,_⟩:=ok
    refine h.set ?_
    rw[Q1]
    exact h.get ⋯
  | add i j c =>
    obtain ⟨hi,hj,_⟩:=ok
    refine h.set ?_
    rw[List.length_zipWith,Q1,h.get ⋯,h.get ⋯]
    exact Nat.min_self m
inductive ZhW (CF CR cT:Addr) (vs:List V) (H:Hp) (Q:VK) (E:XK):Prop
  | mk (κ:KX) (s tb tu:Addr) (rs:List Addr) (R:List (List κ.F)) (tvs:List V) (ts:List (Tn κ)) (m:Nat) (_:vs=[.ref s,.ref tb,.ref tu]) (_:KdX CF CR κ H s) (_:H tb=some (.lst (rs.map V.ref))) (_:RowsX κ H rs R) (_:R.length<=1000) (_:Wid m R) (_:m<=1000) (_:H tu=some (.lst tvs)) (_:AllG (TR κ H) tvs ts) (_:(∀(i:Nat) t,ts[i]?=some t->(∀t'∈ts.take (i+1),t'.ok R.length)->t.pre (ZaE (ts.take i) R))) (_:((∀t∈ts,t.ok R.length)->∀(H':Hp) (D:Addr) (as:List Addr),Same H H'->H D=none->H' D=some (.lst (as.map V.ref))->RowsX κ H' as (ZaE ts R)->as.Nodup->D∉as->(∀a∈as,H a=none)->Q (.ref D) H')) (_:((∃t∈ts,¬t.ok R.length)->∀H',Same H H'->E (.ref cT) none H')):ZhW CF CR cT vs H Q E
theorem Za4{H H':Hp}{t:Addr}{o:HO}(S:Same H H'):Off [t] H (upd H' t o):=λb u n q=>by
  rw[Zas (λz=>n (by rw[z]; exact Q6.mpr rfl))]
  exact S _ _ q
theorem Zfn{as:List Addr}{i:Int}{a:Addr}(h0:0<=i)(h:as[i.toNat]?=some a):atI (as.map V.ref) i=some (.ref a):=by
  have e:i=((i.toNat:Nat):Int):=by omega
  rw[e]
  exact Zbq h
theorem Zei{n:Nat}{i:Int}(h0:0<=i)(h:i<n):ixN n i=some i.toNat:=by
  have e:i=((i.toNat:Nat):Int):=by omega
  rw[e,Q7]
  exact Znu ⋯
theorem ZcA{as:List Addr}{i:Nat}{a:Addr}:(as.map V.ref).set i (.ref a)=(as.set i a).map V.ref:=by rw[We]
theorem RowsX.notin{κ:KX}{H:Hp}{as:List Addr}{R:List (List κ.F)}{r:Addr}(h:RowsX κ H as R)(n:H r=none):r∉as:=λm=>by
  obtain ⟨i,hi,e⟩:=Wf m
  have l:=h.1
  obtain ⟨zs,hz,_⟩:=h.2 i r _ (by rw[<-e]; exact Q2 hi) (Q2 (show i<R.length by omega))
  rw[hz] at n; cases n
theorem RowsX.snoc{κ:KX}{H:Hp}{as:List Addr}{R:List (List κ.F)}{a:Addr}{xs:List V}{f:List κ.F}(h:RowsX κ H as R)(hx:H a=some (.lst xs))(al:AllG (NR κ H) xs f):RowsX κ H (as++[a]) (R++[f]):=by
  have l:=h.1
  refine ⟨by rw[Qd,Qd,l]; rfl,λi b g hb hg=>?_⟩
  by_cases hi:i<as.length
  · rw[Wh hi] at hb
    rw[Wh ⋯] at hg
    exact h.2 i b g hb hg
  · rw[Wg ⋯] at hb hg
    rw[<-l] at hg
    cases q:i-as.length with
    | zero=>rw[q] at hb hg; cases hb; cases hg; exact ⟨xs,hx,al⟩
    | succ n=>rw[q] at hb; simp at hb
theorem RowsX.nil{κ:KX}{H:Hp}:RowsX κ H [] []:=⟨rfl,λi a f h=>by simp at h⟩
theorem ZfX{l:List Addr}{a:Addr}(h:l.Nodup)(n:a∉l):(l++[a]).Nodup:=by
  rw[List.nodup_append]
  exact ⟨h,by simp,λx hx y hy=>by rw[Q6] at hy; subst hy; exact λz=>n (z ▸ hx)⟩
open PySem L2 PyProof.Rows
def Sz(κ:KX)(n:Nat)(x:κ.F):Prop:=match κ with
  | .q=>(x.den:Int) ∣ 60*12^n/\Bits (200+700*n) x.num
  | .r _ _=>True
def Sc(κ:KX)(x:κ.F):Prop:=match κ with
  | .q=>(x.den:Int) ∣ 12/\Bits 200 x.num
  | .r _ _=>True
theorem Zqb{t b:Int}(hb:0<b):(t.fdiv (Int.gcd t b)=(Rat.divInt t b).num)/\(b.fdiv (Int.gcd t b)=((Rat.divInt t b).den:Int)):=by
  obtain ⟨l1,l2,l3,_,_⟩:=M3.low (t:=t) hb
  obtain ⟨e1,e2⟩:=Zko (N:=t) (D:=b) ⟨l2,l1⟩ hb l3
  exact ⟨e1.symm,e2.symm⟩
inductive Zfo (vs:List V) (H:Hp) (Q:VK) (zE:XK):Prop
  | mk (t b:Int) (_:vs=[.int t,.int b]) (_:0<b) (_:Bits 8000 b) (_:∀r,H r=none->Q (.ref r) (upd H r (.tup [.int (Rat.divInt t b).num,.int ((Rat.divInt t b).den:Int)]))):Zfo vs H Q zE
inductive Zb8 (g:(κ:KX)->κ.F->κ.F->κ.F) (vs:List V) (H:Hp) (Q:VK) (zE:XK):Prop
  | mk (κ:KX) (u v:V) (x y:κ.F) (_:vs=[.int κ.P,u,v]) (_:NR κ H u x) (_:NR κ H v y) (_:B1 κ x) (_:B1 κ y) (_:∀H' t,Same H H'->NR κ H' t (g κ x y)->Q t H'):Zb8 g vs H Q zE
theorem ZhX{p:Nat}{h:PrN p}:0<(KX.r p h).P:=by have:=h.two; show 0<(p:Int); omega
theorem Zow{p:Nat}(h:PrN p)(c:Int):∃x:Fin p,(c.fmod (p:Int))=(x.val:Int):=by
  have h2:=h.two
  rw[Qy _ ⋯]
  have e0:=Wd c (show (p:Int)≠0 by omega)
  have e1:=Wt c (show 0<(p:Int) by omega)
  exact ⟨⟨(c%p).toNat,⋯⟩,by show c%p=(((c%p).toNat:Nat):Int); omega⟩
theorem AllR.snoc{κ:KX}{Pr:κ.F->Prop}{R:List (List κ.F)}{f:List κ.F}(h:AllR Pr R)(g:∀x∈f,Pr x):AllR Pr (R++[f]):=λe he=>by
  rcases Qf.mp he with he | he
  · exact h e he
  · rw[Q6.mp he]; exact g
theorem Wid.snoc{α:Type}{m:Nat}{R:List (List α)}{f:List α}(h:Wid m R)(e:f.length=m):Wid m (R++[f]):=λg hg=>by
  rcases Qf.mp hg with hg | hg
  · exact h g hg
  · rw[Q6.mp hg]; exact e
def TSc{κ:KX}:Tn κ->Prop
  | .swap _ _=>True
  | .scale _ c=>Sc κ c
  | .add _ _ c=>Sc κ c
noncomputable abbrev K1(κ:KX):κ.F:=1
noncomputable abbrev K0(κ:KX):κ.F:=0
theorem Zgt{p:Nat}(h:PrN p):Fin.val (K1 (.r p h))=1:=by
  show 1%p=1
  exact Nat.mod_eq_of_lt h.two
theorem ZeK{p:Nat}(h:PrN p):Fin.val (K0 (.r p h))=0:=by
  show 0%p=0
  exact Nat.zero_mod p
theorem Zfp{K:PySem.W.Frag}{t:Value}:∀ {cs:List Addr},(∀c∈cs,PySem.W.kitOne K t (.ref c)=some false)->PySem.W.kitAny K t (cs.map Value.ref)=some false
  | [],_=>rfl
  | c::cs,h=>by
    have h1:=h c (by simp)
    have h2:=Zfp (cs:=cs) λx hx=>h x (by simp[hx])
    simp only[Ww,PySem.W.kitAny,h1,h2]
def Zpk{κ:KX}(R:List (List κ.F)):PyData:=.list (R.map λf => .list (f.map κ.D))
theorem RowsX.rp{κ:KX}{H:Hp}{t:Addr}{as:List Addr}{R:List (List κ.F)}(h:RowsX κ H as R)(ht:H t=some (.lst (as.map V.ref))):Rp H 3 (.ref t) (Zpk R):=by
  refine Zkc ht ⟨by rw[Q1,Q1]; exact h.1,λi v d hv hd=>?_⟩
  obtain ⟨a,ha,rfl⟩:=Zax hv
  rw[Qg] at hd
  cases e:R[i]? with
  | none=>rw[e] at hd; cases hd
  | some f =>
    rw[e] at hd
    cases hd
    obtain ⟨xs,hx,al⟩:=h.2 i a f ha e
    exact Zkc hx (al.all2 λ_ _ n=>n.rp)
theorem ZaX{κ:KX}{m:Nat}{ts:List (Tn κ)}:∀ {R:List (List κ.F)},Wid m R->(∀t∈ts,t.ok R.length)->Wid m (ZaE ts R):=by
  induction ts with
  | nil=>exact λh _=>h
  | cons t ts ih =>
    intro R h ok
    show Wid m (ZaE ts (doT t R))
    refine ih (ZdE h (ok t (by simp))) λt' ht'=>?_
    rw[Zc0]
    exact ok t' (by simp[ht'])
section
variable{κ:KX}
theorem AllR.getD{Pr:κ.F->Prop}{R:List (List κ.F)}(h:AllR Pr R)(i:Nat):∀x∈R.getD i [],Pr x:=λx hx=>by
  rw[Q3] at hx
  cases e:R[i]? with
  | none=>rw[e] at hx; cases hx
  | some f=>rw[e] at hx; exact h f (Q9 e) x hx
theorem AllR.set{Pr:κ.F->Prop}{R:List (List κ.F)}{i:Nat}{f:List κ.F}(h:AllR Pr R)(g:∀x∈f,Pr x):AllR Pr (R.set i f):=λe he=>by
  rcases W8 he with he | rfl
  · exact h e he
  · exact g
end
structure TU (κ:KX) (H:Hp) (U:Addr) (n:Nat) (tvs:List V) (ts:List (Tn κ)):Prop where
  l:H U=some (.lst tvs)
  al:AllG (TR κ H) tvs ts
  ok:∀t∈ts,t.ok n
  sc:∀t∈ts,TSc t
  l1:1<=ts.length
  l3:ts.length<=300
  lq:κ = .q->ts.length<=64
theorem Zku(xs:List V)(n:Nat):ZlC xs none (some (n:Int))=xs.take n:=by
  unfold ZlC
  rw[HT.sIx_none,List.drop_zero,Nat.sub_zero]
  rw[HT.sIx_nat,Nat.min_def]
  split
  · rfl
  · rw[Ws (Q4 _),Ws ⋯]
end My
namespace My
open PySem L2 PyProof.Rows
theorem ZeL{α:Type}[Fd α]{x r:α}(h:x*r=1):r=Fd.inv x:=by
  have hx:x≠0:=λz=>by
    subst z
    have e:(0:α)*r=0:=by grind
    rw[e] at h
    exact Fd.zne h
  have:=Fd.mul_inv x hx
  grind
theorem Zkv{n d:Int}(fc:Fc n d):∃q:Rat,q.num=n/\(q.den:Int)=d:=by
  have hd:=fc.pos
  refine ⟨⟨n,d.toNat,⋯,?_⟩,rfl,by show ((d.toNat:Nat):Int)=d; omega⟩
  have:=fc.cop
  rw[Nat.coprime_iff_gcd_eq_one]
  have e:Int.gcd n d=Nat.gcd n.natAbs d.natAbs:=rfl
  have e2:d.natAbs=d.toNat:=by omega
  rw[<-e2]
  omega
theorem Zkw{q:Rat}{x y:Int}(fc:Fc x y)(e:x*q.num=q.den*y):(Fd.inv q:Rat).num=x/\((Fd.inv q:Rat).den:Int)=y:=by
  obtain ⟨r,e1,e2⟩:=Zkv fc
  have m:=ZhR (x:=q) (y:=r) (n:=1) (d:=1) ⟨∅,∅⟩ (by rw[e1,e2]; have:q.num*x=x*q.num:=Ql _ _; omega)
  have h1:q*r=1:=by
    rw[<-Qs (q*r),m.1,m.2]; rfl
  have:=ZeL (α:=Rat) h1
  rw[<-this]
  exact ⟨e1,e2⟩
theorem Znw{x y:Rat}{n d:Int}(fc:Fc n d)(e:n*((x.den:Int)*y.den)=(x.num*y.den+(-y.num)*x.den)*d):(x-y).num=n/\((x-y).den:Int)=d:=by
  have h1:(-y).num = -y.num:=rfl
  have h2:(-y).den=y.den:=rfl
  have:x-y=x+(-y):=by grind
  rw[this]
  refine Zkp (x:=x) (y:=-y) fc ?_
  rw[h1,h2]; exact e
noncomputable abbrev KX.mulF(κ:KX)(x y:κ.F):κ.F:=x*y
noncomputable abbrev KX.invF(κ:KX)(x:κ.F):κ.F:=Fd.inv x
theorem Zhf{κ:KX}{x r:κ.F}(h:κ.mulF x r=K1 κ):r=κ.invF x:=ZeL h
def NumV(κ:KX)(t:Int)(x:κ.F):Prop:=match κ with
  | .q=>x.num=t/\x.den=1
  | .r p _=>t.natAbs<=10^140/\(x.val:Int)=t%p
theorem Zkx{κ:KX}:NumV κ 0 0:=by
  cases κ with
  | q=>exact ⟨rfl,rfl⟩
  | r p h=>exact ⟨∅,by show ((Fin.val (K0 (.r p h)):Nat):Int)=_; rw[ZeK]; simp⟩
theorem Zfq{κ:KX}:NumV κ 1 1:=by
  cases κ with
  | q=>exact ⟨rfl,rfl⟩
  | r p h=>exact ⟨∅,by
      show ((Fin.val (K1 (.r p h)):Nat):Int)=_
      rw[Zgt]
      have:=h.two
      exact (Ub ∅ ⋯).symm⟩
theorem NumV.uniq{κ:KX}{t:Int}{x y:κ.F}(h:NumV κ t x)(h':NumV κ t y):x=y:=by
  cases κ with
  | q =>
    have e1:Rat.num x=Rat.num y:=h.1.trans h'.1.symm
    have e2:Rat.den x=Rat.den y:=h.2.trans h'.2.symm
    exact Rat.ext e1 e2
  | r p hp =>
    refine Fin.ext ?_
    have e:(Fin.val x:Int)=Fin.val y:=h.2.trans h'.2.symm
    omega
def Zox(P:Program)(w:World)(K:PySem.W.Frag)(mg:Str->Option Value)(base:Heap)(CF CR:Addr):Prop :=
  ∀(κ:KX) (H:Hp) (s:Addr),KdX CF CR κ H s->∃C dx fs ps dvs sp,H s=some (.ins C dx fs)/\Cls K C/\HasM P w K mg base C "minus" 3 ps dvs sp/\fs.lookup ("minus" : Str)=none/\dvs=[] ∧
    ∀(H':Hp) (u v:V) (x y:κ.F) (Q:VK),Same H H'->NR κ H' u x->NR κ H' v y->B1 κ x->B1 κ y->(∀t H'',Same H' H''->NR κ H'' t (x-y)->Q t H'')->sp [.ref s,u,v] H' Q E0
def ZdF(P:Program)(w:World)(K:PySem.W.Frag)(mg:Str->Option Value)(base:Heap)(CF CR:Addr):Prop :=
  ∀(κ:KX) (H:Hp) (s:Addr),KdX CF CR κ H s->∃C dx fs ps dvs sp,H s=some (.ins C dx fs)/\Cls K C/\HasMX P w K mg base C "number" 3 ps dvs sp/\fs.lookup ("number" : Str)=none/\dvs=[.int 1] ∧
    ∀(H':Hp) (t:Int) (x:κ.F) (Q:VK) (E:XK),Same H H'->NumV κ t x->(∀v H'',Same H' H''->NR κ H'' v x->Q v H'')->sp [.ref s,.int t,.int 1] H' Q E
def Zgu(P:Program)(w:World)(K:PySem.W.Frag)(mg:Str->Option Value)(base:Heap)(CF CR:Addr):Prop :=
  ∀(κ:KX) (H:Hp) (s:Addr),KdX CF CR κ H s->∃C dx fs ps dvs sp,H s=some (.ins C dx fs)/\Cls K C/\HasMX P w K mg base C "back" 4 ps dvs sp/\fs.lookup ("back" : Str)=none/\dvs=[] ∧
    ∀(H':Hp) (u:V) (x:κ.F) (Q:VK) (E:XK),Same H H'->NR κ H' u x->x≠0->(∀v H'',Same H' H''->NR κ H'' v (Fd.inv x)->Q v H'')->sp [.ref s,u] H' Q E
section
variable{P:Program}{w:World}{K:PySem.W.Frag}{mg:Str->Option Value}{base:Heap}{CF CR cN:Addr}
theorem Zjq(kd:Kd K mg CF CR)(hF:HasM P w K mg base CF "minus" 3 ["self", "one", "other"] [] (Zed K CF)) (hR:HasM P w K mg base CR "minus" 3 ["self", "one", "other"] [] (Zfj CR λa b=>a-b)):Zox P w K mg base CF CR:=by
  intro κ H s hk
  cases κ with
  | q =>
    obtain ⟨dx,h⟩:=hk
    refine ⟨CF,dx,[],_,_,_,h,kd.clF,hF,rfl,rfl,λH' u v x y Q S hu hv bx by' k=>?_⟩
    obtain ⟨a,rfl,hu⟩:=hu
    obtain ⟨b,rfl,hv⟩:=hv
    refine ⟨s,a,b,_,_,_,_,rfl,⟨dx,S _ _ h⟩,SqT.of hu,SqT.of hv,Za8 x,Za8 y,bx.1,bx.2,by'.1,by'.2,λt H'' n d S' ht hn fc e=>?_⟩
    obtain ⟨e1,e2⟩:=Znw (x:=x) (y:=y) fc e
    refine k (.ref t) H'' S' ⟨t,rfl,?_⟩
    show H'' t=some (.tup [.int (x-y:Rat).num,.int ((x-y:Rat).den:Int)])
    rw[e1,e2]
    exact ht
  | r p hp =>
    obtain ⟨dx,h⟩:=hk
    refine ⟨CR,dx,fsR p,_,_,_,h,kd.clR,hR,Zds _ ∅,rfl,λH' u v x y Q S hu hv _ _ k=>?_⟩
    have hu:u = .int x.val:=hu
    have hv:v = .int y.val:=hv
    subst hu hv
    refine ⟨s,p,_,_,rfl,⟨dx,S _ _ h⟩,by have:=hp.two; omega,Za0 hp x,Za0 hp y,k _ H' (Same.refl _) ?_⟩
    show V.int (((x.val:Int)-y.val)%p)=V.int ((Fin.val (x-y):Nat):Int)
    have e:Fin.val (x-y)=(p-y.val+x.val)%p:=rfl
    have ly:=y.isLt
    have e2:(((p-y.val+x.val:Nat)):Int)=((x.val:Int)-y.val)+p:=by omega
    rw[e,Wb,e2,Int.add_emod_right]
theorem ZhY(kd:Kd K mg CF CR)(hF:HasMX P w K mg base CF "number" 3 ["self", "top", "bottom"] [.int 1] (Zdi cN)) (hR:HasMX P w K mg base CR "number" 3 ["self", "top", "bottom"] [.int 1] (Zbu CR cN)):ZdF P w K mg base CF CR:=by
  intro κ H s hk
  cases κ with
  | q =>
    obtain ⟨dx,h⟩:=hk
    refine ⟨CF,dx,[],_,_,_,h,kd.clF,hF,rfl,rfl,λH' t x Q E S hx k=>⟨s,t,1,rfl,∅,λz=>absurd z ∅,λ_ r n d nr fc e l1 l2=>?_⟩⟩
    have y1:d=1:=by
      have:=fc.pos
      have l3:d.natAbs<=1:=l2
      omega
    subst y1
    have x1:n=t:=by omega
    subst x1
    have e1:Rat.num x=n:=hx.1
    have e2:Rat.den x=1:=hx.2
    refine k _ _ (Zah nr _) ⟨r,rfl,?_⟩
    show upd H' r _ r=some (.tup [.int (Rat.num x),.int ((Rat.den x:Nat):Int)])
    rw[e1,e2]; exact Zaf
  | r p hp =>
    obtain ⟨dx,h⟩:=hk
    have h2:=hp.pr.1
    refine ⟨CR,dx,_,_,_,_,h,kd.clR,hR,Zds p ∅,rfl,λH' t x Q E S hx k=>⟨s,p,t,1,rfl,⟨dx,S _ _ h⟩,hp.pr,by have:=hp.lt; omega,hx.1,∅,λz=>?_,λ_ H'' r S' r0 r1 rd=>?_⟩⟩
    · have:=Int.le_of_dvd ∅ z
      omega
    · refine k _ H'' S' ?_
      show V.int r=V.int ((Fin.val x:Nat):Int)
      have e:(Fin.val x:Int)=t%p:=hx.2
      rw[e]
      congr 1
      rw[U2] at rd
      have e3:r%p=t%p:=Int.emod_eq_emod_iff_emod_sub_eq_zero.mpr (Ua rd)
      rw[<-e3]
      exact (Ub r0 r1).symm
theorem Zky(kd:Kd K mg CF CR)(hF:HasMX P w K mg base CF "back" 4 ["self", "one"] [] (Zgp K cN)) (hR:HasMX P w K mg base CR "back" 4 ["self", "one"] [] (Zgq CR cN)):Zgu P w K mg base CF CR:=by
  intro κ H s hk
  cases κ with
  | q =>
    obtain ⟨dx,h⟩:=hk
    refine ⟨CF,dx,[],_,_,_,h,kd.clF,hF,rfl,rfl,λH' u x Q E S hu hx k=>?_⟩
    obtain ⟨a,rfl,hu⟩:=hu
    have hn:Rat.num x≠0:=λz=>hx (Rat.num_eq_zero.mp z)
    refine ⟨s,a,_,_,rfl,SqT.of hu,Za8 x,λz=>absurd z hn,λ_ r n d nr fc e l1 l2=>?_⟩
    obtain ⟨e1,e2⟩:=Zkw (q:=x) fc e
    refine k _ _ (Zah nr _) ⟨r,rfl,?_⟩
    show upd H' r _ r=some (.tup [.int (Fd.inv x:Rat).num,.int ((Fd.inv x:Rat).den:Int)])
    rw[e1,e2]; exact Zaf
  | r p hp =>
    obtain ⟨dx,h⟩:=hk
    have h2:=hp.two
    refine ⟨CR,dx,_,_,_,_,h,kd.clR,hR,Zds p ∅,rfl,λH' u x Q E S hu hx k=>?_⟩
    have hu:u = .int x.val:=hu
    subst hu
    have xl:=x.isLt
    have x0:x.val≠0:=λz=>hx (show x=K0 (.r p hp) from Fin.ext (by rw[ZeK]; exact z))
    have nd:¬(p:Int) ∣ (x.val:Int):=λz=>by
      have:=Int.le_of_dvd ⋯ z
      omega
    refine ⟨s,p,_,rfl,⟨dx,S _ _ h⟩,hp.pr,by have:=hp.lt; omega,Q0 (show _<=1000000 by have:=hp.lt; omega) ∅,λz=>absurd z nd,λ_ H'' r S' r0 r1 rd=>?_⟩
    refine k _ H'' S' ?_
    have hy:(KX.r p hp).mulF x (⟨r.toNat,⋯⟩:Fin p)=K1 (.r p hp):=by
      refine Fin.ext ?_
      show Fin.val ((x:Fin p)*(⟨r.toNat,⋯⟩:Fin p))=Fin.val (K1 (.r p hp))
      rw[Zgt,Fin.val_mul]
      show x.val*r.toNat%p=1
      have e:((x.val*r.toNat%p:Nat):Int)=((1:Nat):Int):=by
        rw[Wb,Wl,Int.toNat_of_nonneg r0]
        have e3:r*(x.val:Int)%p=1%p:=Int.emod_eq_emod_iff_emod_sub_eq_zero.mpr (Ua rd)
        rw[Ql,e3]
        exact Ub ∅ ⋯
      exact_mod_cast e
    have:=Zhf (κ:=.r p hp) hy
    show V.int r=V.int ((Fin.val ((KX.r p hp).invF x):Nat):Int)
    rw[show (KX.r p hp).invF x=_ from this.symm]
    show V.int r=V.int ((r.toNat:Nat):Int)
    rw[Int.toNat_of_nonneg r0]
end
end My
namespace My
open PySem L2 PyProof.Rows
theorem Znx{κ:KX}:B1 κ 0:=by
  cases κ with
  | q=>exact ⟨Bits.of (by show (0:Int).natAbs<_; exact Nat.two_pow_pos _),Bits.of (by show (1:Int).natAbs<_; exact Q5 (show 1<2^1 by decide) (Qa ∅ ∅))⟩
  | r p h=>trivial
end My
namespace My
open PySem L2 PyProof.Rows
section
variable{κ:KX}
noncomputable def ent(R:List (List κ.F))(i j:Nat):κ.F:=(R.getD i []).getD j 0
theorem ZeM{α:Type}{R:List (List α)}{i:Nat}(h:i<R.length):R.set i (R.getD i [])=R:=by
  apply List.ext_getElem?
  intro k
  rw[Wj]
  split
  · rename_i e
    subst e
    rw[ZaD (Q2 h),Q2 h]
  · rfl
theorem ZaQ{α:Type}{R:List (List α)}{i:Nat}{f:List α}(h:i<R.length):(R.set i f).getD i []=f:=ZaD (by rw[Wj,if_pos rfl,if_pos h])
theorem Zbw{α:Type}{R:List (List α)}{i j:Nat}{f:List α}(h:i≠j):(R.set i f).getD j []=R.getD j []:=by
  rw[Q3,Q3,Wj,if_neg h]
theorem Zgv{R:List (List κ.F)}{i k j:Nat}{f:List κ.F}(h:i<R.length):ent (R.set i f) k j=if k=i then f.getD j 0 else ent R k j:=by
  unfold ent
  by_cases e:k=i
  · subst e; rw[if_pos rfl,ZaQ h]
  · rw[if_neg e,Zbw (Ne.symm e)]
theorem ZiI(f:List κ.F)(c:κ.F)(j:Nat):(f.map (c * ·)).getD j 0=c*f.getD j 0:=by
  rw[Q3,Q3,Qg]
  cases f[j]? with
  | none=>show (0:κ.F)=c*0; grind
  | some x=>rfl
theorem Zl1{f g:List κ.F}(h:f.length=g.length)(j:Nat):(List.zipWith (· + ·) f g).getD j 0=f.getD j 0+g.getD j 0:=by
  rw[Q3,Q3,Q3,List.getElem?_zipWith]
  by_cases hj:j<f.length
  · rw[Q2 hj,Q2 ⋯]; rfl
  · rw[List.getElem?_eq_none ⋯,List.getElem?_eq_none ⋯]
    show (0:κ.F)=0+0
    grind
theorem ZdV{R:List (List κ.F)}{a b:Int}(ha:a.toNat<R.length)(hb:b.toNat<R.length)(i j:Nat):ent (doT (.swap a b) R) i j=if i=b.toNat then ent R a.toNat j else if i=a.toNat then ent R b.toNat j else ent R i j:=by
  show ent ((R.set a.toNat (R.getD b.toNat [])).set b.toNat (R.getD a.toNat [])) i j=_
  rw[Zgv (by rw[W7]; exact hb),Zgv ha]
  rfl
theorem Zbm{R:List (List κ.F)}{a:Int}{c:κ.F}(ha:a.toNat<R.length)(i j:Nat):ent (doT (.scale a c) R) i j=if i=a.toNat then c*ent R i j else ent R i j:=by
  show ent (R.set a.toNat ((R.getD a.toNat []).map (c * ·))) i j=_
  rw[Zgv ha,ZiI]
  by_cases e:i=a.toNat
  · rw[if_pos e,if_pos e,e]; rfl
  · rw[if_neg e,if_neg e]
theorem Zej{m:Nat}{R:List (List κ.F)}{a b:Int}{c:κ.F}(wd:Wid m R)(ha:a.toNat<R.length)(hb:b.toNat<R.length)(i j:Nat):ent (doT (.add a b c) R) i j=if i=a.toNat then ent R i j+c*ent R b.toNat j else ent R i j:=by
  show ent (R.set a.toNat (List.zipWith (· + ·) (R.getD a.toNat []) ((R.getD b.toNat []).map (c * ·)))) i j=_
  rw[Zgv ha,Zl1 (by rw[Q1,wd.get ha,wd.get hb]),ZiI]
  by_cases e:i=a.toNat
  · rw[if_pos e,if_pos e,e]; rfl
  · rw[if_neg e,if_neg e]
theorem RowsX.ent{m:Nat}{H:Hp}{as:List Addr}{R:List (List κ.F)}(rx:RowsX κ H as R)(wd:Wid m R){i j:Nat}(hi:i<R.length)(hj:j<m):∃a xs v,as[i]?=some a/\H a=some (.lst xs)/\xs[j]?=some v/\NR κ H v (ent R i j):=by
  obtain ⟨a,xs,ha,hx,al⟩:=rx.get hi
  have l:=wd.get hi
  have e:R.getD i []=R[i]:=ZaD (Q2 hi)
  rw[e] at l
  obtain ⟨v,hv,nv⟩:=al.get' (i:=j) ⋯
  refine ⟨a,xs,v,ha,hx,hv,?_⟩
  unfold My.ent
  rw[e,Q3,Q2 ⋯]
  exact nv
theorem Zkz{m:Nat}{Pr:κ.F->Prop}{R:List (List κ.F)}(wd:Wid m R)(h:∀i<R.length,∀j<m,Pr (ent R i j)):AllR Pr R:=by
  intro f hf x hx
  obtain ⟨i,hi,rfl⟩:=Wf hf
  obtain ⟨j,hj,rfl⟩:=Wf hx
  have l:=wd _ hf
  have:=h i hi j ⋯
  unfold ent at this
  rw[ZaD (Q2 hi),Q3,Q2 hj] at this
  exact this
theorem ZdG{m:Nat}{Pr:κ.F->Prop}{R:List (List κ.F)}(wd:Wid m R){i:Nat}(hi:i<R.length)(h:∀j<m,Pr (ent R i j)):∀x∈R.getD i [],Pr x:=by
  intro x hx
  obtain ⟨j,hj,rfl⟩:=Wf hx
  have l:=wd.get hi
  have:=h j ⋯
  unfold ent at this
  rw[Q3,Q2 hj] at this
  exact this
theorem Zgw{m:Nat}{Pr:κ.F->Prop}{R:List (List κ.F)}(wd:Wid m R)(h:AllR Pr R){i j:Nat}(hi:i<R.length)(hj:j<m):Pr (ent R i j):=by
  have l:=wd.get hi
  unfold ent
  rw[Q3,Q2 ⋯]
  refine h _ ?_ _ (Qe _)
  rw[ZaD (Q2 hi)]
  exact Qe hi
theorem ZdH{m:Nat}{R S:List (List κ.F)}(l:R.length=S.length)(w1:Wid m R)(w2:Wid m S)(h:∀i<R.length,∀j<m,ent R i j=ent S i j):R=S:=by
  apply List.ext_getElem l
  intro i h1 h2
  have a:=w1 _ (Qe h1)
  have b:=w2 _ (Qe h2)
  apply List.ext_getElem ⋯
  intro j h3 h4
  have:=h i h1 j ⋯
  unfold ent at this
  rw[ZaD (Q2 h1),ZaD (Q2 h2),Q3,Q2 h3,Q3,Q2 h4] at this
  exact this
theorem Zny{m:Nat}{R:List (List κ.F)}{a:Int}(wd:Wid m R)(ha:a.toNat<R.length)(ok:(Tn.scale (κ:=κ) a 1).ok R.length):doT (.scale a 1) R=R:=by
  refine ZdH (m:=m) (Zc0 _ _) (ZdE wd ok) wd λi hi j hj=>?_
  rw[Zbm ha]
  split
  · grind
  · rfl
theorem Znz{m:Nat}{R:List (List κ.F)}{a b:Int}(wd:Wid m R)(ok:(Tn.add (κ:=κ) a b 0).ok R.length):doT (.add a b 0) R=R:=by
  obtain ⟨⟨a0,a1⟩,⟨b0,b1⟩,ne⟩:=id ok
  refine ZdH (m:=m) (Zc0 _ _) (ZdE wd ok) wd λi hi j hj=>?_
  rw[Zej wd ⋯ ⋯]
  split
  · grind
  · rfl
def QS(κ:KX)(D:Int)(a:Nat)(x:κ.F):Prop:=match κ with
  | .q=>∃X:Int,x=Rat.divInt X D/\Bits a X
  | .r _ _=>True
theorem QS.mono{D:Int}{a b:Nat}{x:κ.F}(h:QS κ D a x)(l:a<=b):QS κ D b x:=by
  cases κ with
  | r p hp=>exact trivial
  | q=>obtain ⟨X,e,hX⟩:=h; exact ⟨X,e,hX.up l⟩
theorem QS.mul{D E:Int}{a b:Nat}{x y:κ.F}(h:QS κ D a x)(g:QS κ E b y):QS κ (D*E) (a+b) (x*y):=by
  cases κ with
  | r p hp=>exact trivial
  | q =>
    obtain ⟨X,rfl,hX⟩:=h
    obtain ⟨Y,rfl,hY⟩:=g
    exact ⟨X*Y,Wm _ _,hX.times hY⟩
theorem QS.add{D:Int}(hD:0<D){a:Nat}{x y:κ.F}(h:QS κ D a x)(g:QS κ D a y):QS κ D (a+1) (x+y):=by
  cases κ with
  | r p hp=>exact trivial
  | q =>
    obtain ⟨X,rfl,hX⟩:=h
    obtain ⟨Y,rfl,hY⟩:=g
    refine ⟨X+Y,?_,hX.plus hY⟩
    show Rat.divInt X D+Rat.divInt Y D=_
    rw[Uz _ _ ⋯ ⋯,W5 (Ul (Qu hD hD)) ⋯,<-Int.add_mul,Qn]
theorem QS.neg{D:Int}{a:Nat}{x:κ.F}(h:QS κ D a x):QS κ D a (0-x):=by
  cases κ with
  | r p hp=>exact trivial
  | q =>
    obtain ⟨X,rfl,hX⟩:=h
    refine ⟨-X,?_,hX.le ⋯⟩
    have e:(0-Rat.divInt X D:Rat) = -Rat.divInt X D:=by grind
    exact e.trans (Rat.neg_divInt X D)
theorem QS.zero{D:Int}{a:Nat}:QS κ D a 0:=by
  cases κ with
  | r p hp=>exact trivial
  | q=>exact ⟨0,(Rat.zero_divInt D).symm,Qk _⟩
theorem QS.up{D E:Int}(hD:0<D)(hE:0<E){a e:Nat}{x:κ.F}(h:QS κ D a x)(bE:Bits e E):QS κ (D*E) (a+e) x:=by
  cases κ with
  | r p hp=>exact trivial
  | q =>
    obtain ⟨X,rfl,hX⟩:=h
    refine ⟨X*E,?_,hX.times bE⟩
    rw[W5 ⋯ (Ul (Qu hD hE)),Qn,Ql D E]
theorem QS.b1{D:Int}(hD:0<D){a:Nat}{x:κ.F}(h:QS κ D a x)(bD:Bits 4000 D)(ha:a<=1000000):B1 κ x:=by
  cases κ with
  | r p hp=>exact trivial
  | q =>
    obtain ⟨X,rfl,hX⟩:=h
    obtain ⟨z1,z2⟩:=ZbU X hD
    exact ⟨Zdj z2 (hX.up ha) (ZeJ X hD),Zdj z1 bD (λz=>by omega)⟩
theorem QS.inv{D:Int}(hD:0<D){a d:Nat}(h1:1<=a){x:κ.F}(h:QS κ D a x)(bD:Bits d D)(h0:x≠0):∃L:Int,0<L/\Bits a L/\QS κ L d (Fd.inv x):=by
  cases κ with
  | r p hp=>exact ⟨1,∅,Bits.of (by show 1<_; exact Q5 (show 1<2^1 by decide) (Qa ∅ h1)),trivial⟩
  | q =>
    obtain ⟨X,rfl,hX⟩:=h
    have X0:X≠0:=λz=>by subst z; exact h0 (Rat.zero_divInt D)
    have key:∀Y L:Int,0<L->X*Y=D*L->(Fd.inv (Rat.divInt X D):Rat)=Rat.divInt Y L:=λY L hL e=>by
      refine (ZeL (α:=Rat) ?_).symm
      rw[Wm,e]
      have:(D*L:Int)≠0:=Ul (Qu hD hL)
      exact Rat.divInt_self' this
    rcases Int.lt_or_gt_of_ne X0 with c | c
    · refine ⟨-X,⋯,hX.le ⋯,-D,key (-D) (-X) ⋯ ?_,bD.le ⋯⟩
      rw[Wq,Wq,Ql]
    · exact ⟨X,c,hX,D,key D X c (Ql _ _),bD⟩
theorem Zoy:QS κ 1 1 1:=by
  cases κ with
  | r p hp=>exact trivial
  | q=>exact ⟨1,by rfl,Bits.of ∅⟩
end
end My
namespace My
open PySem L2 PyProof.Rows
abbrev B1s(κ:KX)(x:κ.F):Prop:=Bd κ 900000 3700 x
theorem B1s.b1{κ:KX}{x:κ.F}(h:B1s κ x):B1 κ x:=by
  cases κ with
  | q=>exact ⟨h.1.up ∅,h.2.up ∅⟩
  | r p hp=>exact trivial
theorem QS.b1s{κ:KX}{D:Int}(hD:0<D){a:Nat}{x:κ.F}(h:QS κ D a x)(bD:Bits 3700 D)(ha:a<=900000):B1s κ x:=by
  cases κ with
  | r p hp=>exact trivial
  | q =>
    obtain ⟨X,rfl,hX⟩:=h
    obtain ⟨z1,z2⟩:=ZbU X hD
    exact ⟨Zdj z2 (hX.up ha) (ZeJ X hD),Zdj z1 bD (λz=>by omega)⟩
def Tn.preS{κ:KX}(R:List (List κ.F)):Tn κ->Prop
  | .swap _ _=>True
  | .scale i c=>B1s κ c/\∀x∈R.getD i.toNat [],B1s κ x
  | .add i j c=>B1s κ c/\(∀x∈R.getD i.toNat [],B1s κ x)/\∀y∈R.getD j.toNat [],B1s κ y/\B1s κ (c*y)
theorem Tn.preS.pre{κ:KX}{R:List (List κ.F)}{t:Tn κ}(h:t.preS R):t.pre R:=by
  cases t with
  | swap i j=>trivial
  | scale i c=>exact ⟨h.1.b1,λx hx=>(h.2 x hx).b1⟩
  | add i j c=>exact ⟨h.1.b1,λx hx=>(h.2.1 x hx).b1,λx hx=>⟨(h.2.2 x hx).1.b1,(h.2.2 x hx).2.b1⟩⟩
section
variable{κ:KX}
structure Ech (R:List (List κ.F)) (n c:Nat) (ls:List Nat) (x:κ.F):Prop where
  le:ls.length<=n
  lt:∀k<ls.length,ls.getD k 0<c
  inc:∀k k',k<k'->k'<ls.length->ls.getD k 0<ls.getD k' 0
  x0:x≠0
  col:∀k<ls.length,∀i<n,ent R i (ls.getD k 0)=if i=k then x else 0
  low:∀i,ls.length<=i->i<n->∀j<c,ent R i j=0
  pre:∀k<ls.length,∀j<ls.getD k 0,ent R k j=0
theorem ZnA{R:List (List κ.F)}{n:Nat}:Ech R n 0 [] 1:=⟨Qk _,λk h=>by simp at h,λk k' _ h=>by simp at h,λz=>Fd.zne z.symm,λk h=>by simp at h,λi _ _ j hj=>by omega,λk h=>by simp at h⟩
theorem Ech.skip{R:List (List κ.F)}{n c:Nat}{ls:List Nat}{x:κ.F}(h:Ech R n c ls x)(z:∀i,ls.length<=i->i<n->ent R i c=0):Ech R n (c+1) ls x where
  le:=h.le
  lt:=λk hk=>by have:=h.lt k hk; omega
  inc:=h.inc
  x0:=h.x0
  col:=h.col
  low:=λi h1 h2 j hj=>by
    by_cases e:j=c
    · subst e; exact z i h1 h2
    · exact h.low i h1 h2 j ⋯
  pre:=h.pre
theorem Ech.swap{R:List (List κ.F)}{n c f:Nat}{ls:List Nat}{x:κ.F}(h:Ech R n c ls x)(hn:R.length=n)(h1:ls.length<=f)(h2:f<n):Ech (doT (.swap (ls.length:Int) (f:Int)) R) n c ls x:=by
  have e:=ZdV (R:=R) (a:=(ls.length:Int)) (b:=(f:Int)) (by rw[Q7]; omega) (by rw[Q7]; omega)
  simp only[Q7] at e
  refine ⟨h.le,h.lt,h.inc,h.x0,λk hk i hi=>?_,λi a b j hj=>?_,λk hk j hj=>?_⟩
  · rw[e]
    by_cases e1:i=f
    · rw[if_pos e1,h.col k hk _ ⋯,if_neg ⋯,if_neg ⋯]
    · rw[if_neg e1]
      by_cases e2:i=ls.length
      · rw[if_pos e2,h.col k hk _ h2,if_neg ⋯,if_neg ⋯]
      · rw[if_neg e2,h.col k hk i hi]
  · rw[e]
    by_cases e1:i=f
    · rw[if_pos e1]; exact h.low _ (Q4 _) ⋯ j hj
    · rw[if_neg e1]
      by_cases e2:i=ls.length
      · rw[if_pos e2]; exact h.low _ h1 h2 j hj
      · rw[if_neg e2]; exact h.low i a b j hj
  · rw[e,if_neg ⋯,if_neg ⋯]
    exact h.pre k hk j hj
noncomputable def ZkA(R:List (List κ.F))(l c:Nat)(x:κ.F)(i j:Nat):κ.F:=if i=l then ent R l j else Fd.inv x*(ent R l c*ent R i j+(0-ent R i c)*ent R l j)
theorem ZbD{ls:List Nat}{c k:Nat}(h:k<ls.length):(ls++[c]).getD k 0=ls.getD k 0:=by
  rw[Q3,Q3,Wh h]
theorem Zb9{ls:List Nat}{c:Nat}:(ls++[c]).getD ls.length 0=c:=by
  rw[Q3,Wg (Q4 _),Um]; rfl
theorem Ech.pivot{R R':List (List κ.F)}{n c:Nat}{ls:List Nat}{x:κ.F}(h:Ech R n c ls x)(hl:ls.length<n)(h0:ent R ls.length c≠0)(e:∀i<n,∀j,ent R' i j=ZkA R ls.length c x i j):Ech R' n (c+1) (ls++[c]) (ent R ls.length c):=by
  have hx:=Fd.mul_inv x h.x0
  have ln:(ls++[c]).length=ls.length+1:=by simp
  refine ⟨⋯,λk hk=>?_,λk k' h1 h2=>?_,h0,λk hk i hi=>?_,λi a b j hj=>?_,λk hk j hj=>?_⟩
  · rcases U8 k ls.length with q | q
    · rw[ZbD q]; have:=h.lt k q; omega
    · have:k=ls.length:=by omega
      subst this
      rw[Zb9]; omega
  · have q:k<ls.length:=by omega
    rw[ZbD q]
    rcases U8 k' ls.length with q' | q'
    · rw[ZbD q']; exact h.inc k k' h1 q'
    · have:k'=ls.length:=by omega
      subst this
      rw[Zb9]; exact h.lt k q
  · rw[e i hi]
    unfold ZkA
    rcases U8 k ls.length with q | q
    · rw[ZbD q]
      have c1:=h.col k q ls.length hl
      rw[if_neg ⋯] at c1
      have c2:=h.col k q i hi
      by_cases e1:i=ls.length
      · rw[if_pos e1,c1,if_neg ⋯]
      · rw[if_neg e1,c1,c2]
        by_cases e2:i=k
        · rw[if_pos e2,if_pos e2]; grind
        · rw[if_neg e2,if_neg e2]; grind
    · have:k=ls.length:=by omega
      subst this
      rw[Zb9]
      by_cases e1:i=ls.length
      · rw[if_pos e1,if_pos e1]
      · rw[if_neg e1,if_neg e1]; grind
  · rw[e i b]
    unfold ZkA
    rw[if_neg ⋯]
    by_cases e1:j=c
    · subst e1; grind
    · have z1:=h.low i ⋯ b j ⋯
      have z2:=h.low ls.length (Q4 _) hl j ⋯
      rw[z1,z2]; grind
  · rw[e k ⋯]
    unfold ZkA
    rcases U8 k ls.length with q | q
    · rw[ZbD q] at hj
      have:=h.lt k q
      have z1:=h.pre k q j hj
      have z2:=h.low ls.length (Q4 _) hl j ⋯
      rw[if_neg ⋯,z1,z2]; grind
    · have:k=ls.length:=by omega
      subst this
      rw[Zb9] at hj
      rw[if_pos rfl]
      exact h.low ls.length (Q4 _) hl j hj
def dS:Nat->Nat | 0=>1 | 1=>3 | 2=>306 | 3=>1214 | _=>3636
def aS:Nat->Nat | 0=>300 | 1=>602 | 2=>1208 | 3=>2723 | _=>6661
def dL:Nat->Nat | 0=>1 | k+1=>dS k
def aL:Nat->Nat | 0=>1 | k+1=>aS k
theorem Zoz{k:Nat}(h:k<4):2*dS k+aL k<=dS (k+1)/\2*aS k+1+dL k<=aS (k+1)/\aS k+dS k+aL k<=aS (k+1)/\2*dS k<=3700/\aL k<=3700/\1<=aL k/\2*aS k+1<=900000/\dL k<=900000:=by
  match k,h with
  | 0,_=>decide
  | 1,_=>decide
  | 2,_=>decide
  | 3,_=>decide
def Stg(κ:KX)(R:List (List κ.F))(k:Nat)(x:κ.F):Prop:=κ = .q->∃D D':Int,0<D/\Bits (dS k) D/\AllR (QS κ D (aS k)) R/\0<D'/\Bits (dL k) D'/\QS κ D' (aL k) x
structure PivB (x:κ.F) (PQ PN:κ.F->Prop):Prop where
  ent:∀y,PQ y->B1s κ y
  neg:∀y,PQ y->B1s κ (0-y)
  mul:∀h y,PQ h->PQ y->B1s κ (h*y)
  nml:∀z e,PQ z->PQ e->B1s κ ((0-z)*e)
  sum:∀h y z e,PQ h->PQ y->PQ z->PQ e->B1s κ (h*y+(0-z)*e)
  inv:B1s κ (Fd.inv x)
  new:∀h y z e,PQ h->PQ y->PQ z->PQ e->PN (Fd.inv x*(h*y+(0-z)*e))
  keep:∀y,PQ y->PN y
theorem Zn2{p:Nat}{hp:PrN p}{x:(KX.r p hp).F}:B1s (.r p hp) x:=trivial
theorem ZnB{R:List (List κ.F)}{k:Nat}{x:κ.F}(h:Stg κ R k x)(x0:x≠0)(hk:κ = .q->k<4):∃PQ PN:κ.F->Prop,AllR PQ R/\PivB x PQ PN/\∀R' y,AllR PN R'->PQ y->Stg κ R' (k+1) y:=by
  cases κ with
  | r p hp =>
    refine ⟨λ_=>True,λ_=>True,λ_ _ _ _=>trivial,⟨λ_ _=>Zn2,λ_ _=>Zn2,λ_ _ _ _=>Zn2,λ_ _ _ _=>Zn2,λ_ _ _ _ _ _ _ _=>Zn2,Zn2,λ_ _ _ _ _ _ _ _=>trivial,λ_ _=>trivial⟩,λR' y _ _ z=>nomatch z⟩
  | q =>
    obtain ⟨n1,n2,n3,n4,n5,n6,n7,n8⟩:=Zoz (hk rfl)
    obtain ⟨D,D',hD,bD,qR,hD',bD',qx⟩:=h rfl
    obtain ⟨L,hL,bL,qI⟩:=QS.inv hD' n6 qx bD' x0
    have hDD:0<D*D:=Qu hD hD
    have bDD:Bits (2*dS k) (D*D):=(bD.times bD).up ⋯
    have bDD4:Bits 3700 (D*D):=bDD.up n4
    have qm:∀h y:Rat,QS .q D (aS k) h->QS .q D (aS k) y->QS .q (D*D) (2*aS k) (h*y):=λh y a b=>(QS.mul (κ:=.q) a b).mono ⋯
    have qs:∀h y z e:Rat,QS .q D (aS k) h->QS .q D (aS k) y->QS .q D (aS k) z->QS .q D (aS k) e->QS .q (D*D) (2*aS k+1) (h*y+(0-z)*e):=λh y z e a b c d=>QS.add (κ:=.q) hDD (qm h y a b) (qm _ e (QS.neg (κ:=.q) c) d)
    refine ⟨QS .q D (aS k),QS .q (D*D*L) (aS (k+1)),qR,⟨λy a=>QS.b1s hD a (bD.up ⋯) ⋯,λy a=>QS.b1s hD (QS.neg (κ:=.q) a) (bD.up ⋯) ⋯,λh y a b=>QS.b1s hDD (qm h y a b) bDD4 ⋯,λz e a b=>QS.b1s hDD (qm _ e (QS.neg (κ:=.q) a) b) bDD4 ⋯,λh y z e a b c d=>QS.b1s hDD (qs h y z e a b c d) bDD4 ⋯,QS.b1s hL qI (bL.up n5) n8,λh y z e a b c d=>?_,λy a=>?_⟩,λR' y a b _=>?_⟩
    · have:=QS.mul (κ:=.q) qI (qs h y z e a b c d)
      rw[Ql L] at this
      exact this.mono ⋯
    · have:=QS.up (κ:=.q) hD (Qu hD hL) a (bD.times bL)
      rw[<-Qn] at this
      exact this.mono ⋯
    · exact ⟨D*D*L,D,Qu hDD hL,(bDD.times bL).up ⋯,a,hD,bD,b⟩
end
end My
namespace My
open PySem L2 PyProof.Rows
theorem ZoA{κ:KX}{H:Hp}{u v:V}{x y:κ.F}(hu:NR κ H u x)(hv:NR κ H v y):∃b,Zou H u v b/\(b=true↔x=y):=by
  cases κ with
  | q =>
    obtain ⟨a,rfl,ha⟩:=hu
    obtain ⟨c,rfl,hc⟩:=hv
    refine ⟨_,.inr ⟨a,c,_,_,_,_,rfl,rfl,ha,hc,rfl⟩,?_⟩
    rw[Bool.and_eq_true_iff,decide_eq_true_iff,decide_eq_true_iff]
    constructor
    · rintro ⟨e1,e2⟩
      exact Rat.ext e1 ⋯
    · intro e
      have e:x=y:=e
      subst e
      exact ⟨rfl,rfl⟩
  | r p hp =>
    have hu:u = .int x.val:=hu
    have hv:v = .int y.val:=hv
    refine ⟨_,.inl ⟨_,_,hu,hv,rfl⟩,?_⟩
    rw[decide_eq_true_iff]
    constructor
    · intro e; exact Fin.ext ⋯
    · intro e
      have e:x=y:=e
      subst e; rfl
def Tn.idle{κ:KX}:Tn κ->Prop
  | .swap _ _=>False
  | .scale _ c=>c=1
  | .add _ _ c=>c=0
theorem Zl2{κ:KX}{m:Nat}{t:Tn κ}{R:List (List κ.F)}(wd:Wid m R)(ok:t.ok R.length)(h:t.idle):doT t R=R:=by
  cases t with
  | swap i j=>exact absurd h id
  | scale i c =>
    have h:c=1:=h
    subst h
    exact Zny wd (by have:=ok.1; omega) ok
  | add i j c =>
    have h:c=0:=h
    subst h
    exact Znz wd ok
section
variable{κ:KX}
theorem ZeN{g:List κ.F->List κ.F}(g0:g []=[])(R:List (List κ.F))(i:Nat):(R.map g).getD i []=g (R.getD i []):=by
  rw[Q3,Q3,Qg]
  cases R[i]? with
  | none=>exact g0.symm
  | some f=>rfl
theorem ZiJ(pw:Nat)(t:Tn κ)(R:List (List κ.F)):(doT t R).map (List.take pw)=doT t (R.map (List.take pw)):=by
  have gd:=ZeN (κ:=κ) (g:=List.take pw) List.take_nil R
  cases t with
  | swap i j =>
    show ((R.set i.toNat (R.getD j.toNat [])).set j.toNat (R.getD i.toNat [])).map (List.take pw)=((R.map (List.take pw)).set i.toNat ((R.map (List.take pw)).getD j.toNat [])).set j.toNat ((R.map (List.take pw)).getD i.toNat [])
    rw[We,We,gd,gd]
  | scale i c =>
    show (R.set i.toNat ((R.getD i.toNat []).map (c * ·))).map (List.take pw)=(R.map (List.take pw)).set i.toNat (((R.map (List.take pw)).getD i.toNat []).map (c * ·))
    rw[We,gd,List.map_take]
  | add i j c =>
    show (R.set i.toNat (List.zipWith (· + ·) (R.getD i.toNat []) ((R.getD j.toNat []).map (c * ·)))).map (List.take pw)=(R.map (List.take pw)).set i.toNat (List.zipWith (· + ·) ((R.map (List.take pw)).getD i.toNat []) (((R.map (List.take pw)).getD j.toNat []).map (c * ·)))
    rw[We,gd,gd,List.take_zipWith,List.map_take]
theorem Zl3(pw:Nat)(t:Tn κ)(R:List (List κ.F)):(doT t R).map (List.drop pw)=doT t (R.map (List.drop pw)):=by
  have gd:=ZeN (κ:=κ) (g:=List.drop pw) List.drop_nil R
  cases t with
  | swap i j =>
    show ((R.set i.toNat (R.getD j.toNat [])).set j.toNat (R.getD i.toNat [])).map (List.drop pw)=((R.map (List.drop pw)).set i.toNat ((R.map (List.drop pw)).getD j.toNat [])).set j.toNat ((R.map (List.drop pw)).getD i.toNat [])
    rw[We,We,gd,gd]
  | scale i c =>
    show (R.set i.toNat ((R.getD i.toNat []).map (c * ·))).map (List.drop pw)=(R.map (List.drop pw)).set i.toNat (((R.map (List.drop pw)).getD i.toNat []).map (c * ·))
    rw[We,gd,List.map_drop]
  | add i j c =>
    show (R.set i.toNat (List.zipWith (· + ·) (R.getD i.toNat []) ((R.getD j.toNat []).map (c * ·)))).map (List.drop pw)=(R.map (List.drop pw)).set i.toNat (List.zipWith (· + ·) ((R.map (List.drop pw)).getD i.toNat []) (((R.map (List.drop pw)).getD j.toNat []).map (c * ·)))
    rw[We,gd,gd,List.drop_zipWith,List.map_drop]
theorem ZkB(pw:Nat)(ts:List (Tn κ)):∀R:List (List κ.F),(ZaE ts R).map (List.take pw)=ZaE ts (R.map (List.take pw)):=by
  induction ts with
  | nil=>exact λR=>rfl
  | cons t ts ih=>exact λR=>by show (ZaE ts (doT t R)).map _=ZaE ts (doT t (R.map _)); rw[ih,ZiJ]
theorem ZkC(pw:Nat)(ts:List (Tn κ)):∀R:List (List κ.F),(ZaE ts R).map (List.drop pw)=ZaE ts (R.map (List.drop pw)):=by
  induction ts with
  | nil=>exact λR=>rfl
  | cons t ts ih=>exact λR=>by show (ZaE ts (doT t R)).map _=ZaE ts (doT t (R.map _)); rw[ih,Zl3]
theorem ZkD{g:List κ.F->List κ.F}(g0:g []=[])(hg:∀f x,x∈g f->x∈f){t:Tn κ}{R:List (List κ.F)}(h:t.preS R):t.preS (R.map g):=by
  have gd:=ZeN (κ:=κ) g0 R
  cases t with
  | swap i j=>trivial
  | scale i c=>exact ⟨h.1,λx hx=>h.2 x (by rw[gd] at hx; exact hg _ x hx)⟩
  | add i j c=>exact ⟨h.1,λx hx=>h.2.1 x (by rw[gd] at hx; exact hg _ x hx),λx hx=>h.2.2 x (by rw[gd] at hx; exact hg _ x hx)⟩
theorem Zl4(pw:Nat){t:Tn κ}{R:List (List κ.F)}(h:t.preS R):t.preS (R.map (List.take pw)):=ZkD List.take_nil (λ_ _ hx=>Uo hx) h
theorem Zl5(pw:Nat){t:Tn κ}{R:List (List κ.F)}(h:t.preS R):t.preS (R.map (List.drop pw)):=ZkD List.drop_nil (λ_ _ hx=>List.mem_of_mem_drop hx) h
theorem Zdk{pw:Nat}{R:List (List κ.F)}{i j:Nat}(h:j<pw):ent (R.map (List.take pw)) i j=ent R i j:=by
  unfold ent
  rw[ZeN List.take_nil]
  generalize R.getD i []=f
  rw[Q3,Q3,List.getElem?_take,if_pos h]
theorem ZdW{pw m:Nat}{R:List (List κ.F)}(wd:Wid m R)(h:pw<=m):Wid pw (R.map (List.take pw)):=λf hf=>by
  obtain ⟨g,hg,rfl⟩:=Qi.mp hf
  rw[Wp,wd g hg]; omega
end
structure Wk (κ:KX) (Z:List Addr) (R0:List (List κ.F)) (pw m:Nat) (r u:Addr) (H:Hp) (R:List (List κ.F)) (ts:List (Tn κ)):Prop where
  rows:∃as:List Addr,H r=some (.lst (as.map V.ref))/\RowsX κ H as (R.map (List.take pw))/\∀z∈Z,z∉as
  turns:∃tvs:List V,H u=some (.lst tvs)/\AllG (TR κ H) tvs ts
  run:R=ZaE ts R0
  ok:∀t∈ts,t.ok R0.length
  pre:∀(i:Nat) t,ts[i]?=some t->t.preS (ZaE (ts.take i) R0)
  wid:Wid m R0
  ne:r≠u
  m7:m<=1000
  l3:ts.length<=400
  zr:r∈Z
  zu:u∈Z
  za:∀z∈Z,∃o,H z=some o
  wm:pw<=m
section
variable{κ:KX}{Z:List Addr}{R0 R:List (List κ.F)}{pw m:Nat}{r u:Addr}{H:Hp}{ts:List (Tn κ)}
theorem Wk.len(h:Wk κ Z R0 pw m r u H R ts):R.length=R0.length:=by rw[h.run,ZaP]
theorem Wk.wd(h:Wk κ Z R0 pw m r u H R ts):Wid m R:=by rw[h.run]; exact ZaX h.wid h.ok
theorem Wk.same{H':Hp}(h:Wk κ Z R0 pw m r u H R ts)(S:Same H H'):Wk κ Z R0 pw m r u H' R ts:=by
  obtain ⟨as,h1,h2,h3⟩:=h.rows
  obtain ⟨tvs,g1,g2⟩:=h.turns
  exact ⟨⟨as,S _ _ h1,h2.same S,h3⟩,⟨tvs,S _ _ g1,g2.mono λ_ _ n=>n.same S⟩,h.run,h.ok,h.pre,h.wid,h.ne,h.m7,h.l3,h.zr,h.zu,λz hz=>let ⟨o,e⟩:=h.za z hz; ⟨o,S _ _ e⟩,h.wm⟩
theorem Wk.offL{H':Hp}{L:Addr}{ys zs:List V}(h:Wk κ Z R0 pw m r u H R ts)(zL:L∈Z)(n1:L≠r)(n2:L≠u)(hL:H L=some (.lst ys))(hL':H' L=some (.lst zs))(O:Off [L] H H'):Wk κ Z R0 pw m r u H' R ts:=by
  obtain ⟨as,h1,h2,h3⟩:=h.rows
  obtain ⟨tvs,g1,g2⟩:=h.turns
  refine ⟨⟨as,O _ _ (λz=>n1 (Q6.mp z).symm) h1,h2.off (h3 L zL) hL O,h3⟩,⟨tvs,O _ _ (λz=>n2 (Q6.mp z).symm) g1,g2.mono λ_ _ n=>n.off hL O⟩,h.run,h.ok,h.pre,h.wid,h.ne,h.m7,h.l3,h.zr,h.zu,λz hz=>?_,h.wm⟩
  by_cases e:z=L
  · subst e; exact ⟨_,hL'⟩
  · obtain ⟨o,q⟩:=h.za z hz
    exact ⟨o,O _ _ (λw=>e (Q6.mp w)) q⟩
theorem Wk.ent(h:Wk κ Z R0 pw m r u H R ts){i j:Nat}(hi:i<R0.length)(hj:j<pw):∃(as:List Addr) (a:Addr) (xs:List V) (v:V),H r=some (.lst (as.map V.ref))/\as.length=R0.length/\as[i]?=some a/\H a=some (.lst xs)/\xs[j]?=some v/\NR κ H v (My.ent R i j):=by
  obtain ⟨as,h1,h2,h3⟩:=h.rows
  obtain ⟨a,xs,v,e1,e2,e3,e4⟩:=h2.ent (ZdW h.wd h.wm) (by rw[Q1,h.len]; exact hi) hj
  rw[Zdk hj] at e4
  exact ⟨as,a,xs,v,h1,by rw[h2.1,Q1,h.len],e1,e2,e3,e4⟩
theorem Wk.rl(h:Wk κ Z R0 pw m r u H R ts):∃as:List Addr,H r=some (.lst (as.map V.ref))/\as.length=R0.length:=by
  obtain ⟨as,h1,h2,h3⟩:=h.rows
  exact ⟨as,h1,by rw[h2.1,Q1,h.len]⟩
theorem Wk.ul(h:Wk κ Z R0 pw m r u H R ts):∃tvs:List V,H u=some (.lst tvs):=let ⟨tvs,g1,_⟩:=h.turns; ⟨tvs,g1⟩
end
theorem TR.off2{κ:KX}{H H':Hp}{r u:Addr}{ys zs:List V}{v:V}{x:Tn κ}(h:TR κ H v x)(hr:H r=some (.lst ys))(hu:H u=some (.lst zs))(O:Off [r,u] H H'):TR κ H' v x:=by
  have na:∀a ws,H a=some (.tup ws)->a∉[r,u]:=λa ws q m=>by
    rcases Q8.mp m with e | e
    · rw[e,hr] at q; cases q
    · rw[Q6.mp e,hu] at q; cases q
  have nn:∀w c,NR κ H w c->NR κ H' w c:=λw c n=>by
    cases κ with
    | q=>obtain ⟨a,e,n⟩:=n; exact ⟨a,e,O _ _ (na _ _ n) n⟩
    | r p hp=>exact n
  cases x with
  | swap i j=>obtain ⟨a,e,h⟩:=h; exact ⟨a,e,O _ _ (na _ _ h) h⟩
  | scale i c=>obtain ⟨a,w,e,h,n⟩:=h; exact ⟨a,w,e,O _ _ (na _ _ h) h,nn _ _ n⟩
  | add i j c=>obtain ⟨a,w,e,h,n⟩:=h; exact ⟨a,w,e,O _ _ (na _ _ h) h,nn _ _ n⟩
theorem NR.off2{κ:KX}{H H':Hp}{r u:Addr}{ys zs:List V}{v:V}{x:κ.F}(h:NR κ H v x)(hr:H r=some (.lst ys))(hu:H u=some (.lst zs))(O:Off [r,u] H H'):NR κ H' v x:=by
  cases κ with
  | q =>
    obtain ⟨a,e,n⟩:=h
    refine ⟨a,e,O _ _ (λm=>?_) n⟩
    rcases Q8.mp m with e | e
    · rw[e,hr] at n; cases n
    · rw[Q6.mp e,hu] at n; cases n
  | r p hp=>exact h
theorem KdX.off2{CF CR:Addr}{κ:KX}{H H':Hp}{s r u:Addr}{ys zs:List V}(h:KdX CF CR κ H s)(hr:H r=some (.lst ys))(hu:H u=some (.lst zs))(O:Off [r,u] H H'):KdX CF CR κ H' s:=by
  have key:∀C dx fs,H s=some (.ins C dx fs)->H' s=some (.ins C dx fs):=λC dx fs q=>O _ _ (λm=>by
    rcases Q8.mp m with e | e
    · rw[e,hr] at q; cases q
    · rw[Q6.mp e,hu] at q; cases q) q
  cases κ with
  | q=>obtain ⟨dx,h⟩:=h; exact ⟨dx,key _ _ _ h⟩
  | r p hp=>obtain ⟨dx,h⟩:=h; exact ⟨dx,key _ _ _ h⟩
inductive Zek (CF CR:Addr) (vs:List V) (H:Hp) (Q:VK) (zE:XK):Prop
  | mk (κ:KX) (s:Addr) (tv:V) (t:Tn κ) (_:vs=[.ref s,tv]) (_:KdX CF CR κ H s) (_:TR κ H tv t) (_:∀H' (b:Bool),Same H H'->(b=true↔t.idle)->Q (.bl b) H'):Zek CF CR vs H Q zE
inductive Zel (CF CR:Addr) (vs:List V) (H:Hp) (Q:VK) (zE:XK):Prop
  | mk (κ:KX) (s r u:Addr) (Z:List Addr) (R0:List (List κ.F)) (pw m:Nat) (R:List (List κ.F)) (ts:List (Tn κ)) (tv:V) (t:Tn κ) (_:vs=[.ref s,.ref r,.ref u,tv]) (_:KdX CF CR κ H s) (_:Wk κ Z R0 pw m r u H R ts) (_:ts.length<400) (_:TR κ H tv t) (_:t.ok R0.length) (_:t.preS R) (_:∀H' ts',Off [r,u] H H'->Wk κ Z R0 pw m r u H' (doT t R) ts'->ts'.length<=ts.length+1->Q .non H'):Zel CF CR vs H Q zE
def ZmG(κ:KX)(f:List κ.F)(A:Int):Prop:=match κ with
  | .q=>0<A/\(∀x∈f,((Rat.den x:Nat):Int) ∣ A)/\∀B:Int,(∀x∈f,((Rat.den x:Nat):Int) ∣ B)->A ∣ B
  | .r _ _=>A=1
def DvB(κ:KX)(B:Int)(x:κ.F):Prop:=match κ with
  | .q=>((Rat.den x:Nat):Int) ∣ B
  | .r _ _=>True
def ZhZ(P:Program)(w:World)(K:PySem.W.Frag)(mg:Str->Option Value)(base:Heap)(CF CR:Addr):Prop :=
  ∀(κ:KX) (H:Hp) (s:Addr),KdX CF CR κ H s->∃C dx fs ps dvs sp,H s=some (.ins C dx fs)/\Cls K C/\HasM P w K mg base C "common_bottom" 2 ps dvs sp/\fs.lookup ("common_bottom" : Str)=none/\dvs=[] ∧
    ∀(r:Addr) (xs:List V) (f:List κ.F) (B:Int) (Q:VK),H r=some (.lst xs)->AllG (NR κ H) xs f->0<B->Bits 4000 B->(∀x∈f,DvB κ B x)->(∀A:Int,ZmG κ f A->Q (.int A) H)->sp [.ref s,.ref r] H Q E0
inductive Zbx (K:PySem.W.Frag) (vs:List V) (H:Hp) (Q:VK) (zE:XK):Prop
  | mk (s r:Addr) (xs:List V) (f:List Rat) (B:Int) (_:vs=[.ref s,.ref r]) (_:H r=some (.lst xs)) (_:AllG (NR .q H) xs f) (_:0<B) (_:Bits 4000 B) (_:(∀x∈f,((Rat.den x:Nat):Int) ∣ B)) (_:∀A:Int,ZmG .q f A->Q (.int A) H):Zbx K vs H Q zE
inductive Zem (vs:List V) (H:Hp) (Q:VK) (zE:XK):Prop
  | mk (s r:Addr) (_:vs=[.ref s,.ref r]) (_:Q (.int 1) H):Zem vs H Q zE
inductive ZbV (CF CR:Addr) (vs:List V) (H:Hp) (Q:VK) (zE:XK):Prop
  | mk (κ:KX) (s r u:Addr) (Z:List Addr) (R0:List (List κ.F)) (pw m:Nat) (R:List (List κ.F)) (ts:List (Tn κ)) (l c:Nat) (_:vs=[.ref s,.ref r,.int (l:Int),.int (c:Int)]) (_:KdX CF CR κ H s) (_:Wk κ Z R0 pw m r u H R ts) (_:c<pw) (_:l<=R0.length) (_:R0.length<=1000) (_:∀f:Nat,l<=f->f<=R0.length->(f<R0.length->ent R f c≠0)->(∀i,l<=i->i<f->ent R i c=0)->Q (.int (f:Int)) H):ZbV CF CR vs H Q zE
theorem Zl6{b d:Int}(hb:0<b)(hd:0<d):0<b.fdiv (Int.gcd b d)*d/\b ∣ b.fdiv (Int.gcd b d)*d/\d ∣ b.fdiv (Int.gcd b d)*d/\∀B:Int,b ∣ B->d ∣ B->b.fdiv (Int.gcd b d)*d ∣ B:=by
  have hg:(Int.gcd b d:Int)≠0:=by have:=M3.gcd_ne (a:=b) (b:=d) ⋯; omega
  have gp:0<(Int.gcd b d:Int):=by omega
  obtain ⟨q,hq⟩:=Wr b d
  obtain ⟨e,he⟩:=W1 b d
  have eb:b.fdiv (Int.gcd b d)=q:=by
    rw[Ut _ ⋯]
    conv=>lhs; lhs; rw[hq]
    exact Int.mul_ediv_cancel_left q hg
  have hq0:0<q:=by
    rcases Int.lt_or_le 0 q with c | c
    · exact c
    · have:(Int.gcd b d:Int)*q<=0:=Int.mul_nonpos_of_nonneg_of_nonpos ⋯ c
      omega
  rw[eb]
  have eq:q*d=b*e:=by
    calc q*d=q*((Int.gcd b d:Int)*e):=by rw[<-he]
      _=(Int.gcd b d:Int)*q*e:=by rw[<-Qn,Ql q]
      _=b*e:=by rw[<-hq]
  have cop:Int.gcd q e=1:=by
    have h1:=Int.gcd_mul_left (Int.gcd b d:Int) q e
    rw[<-hq,<-he,Qt] at h1
    have h2:0<Int.gcd b d:=by omega
    have h3:Int.gcd b d*1=Int.gcd b d*Int.gcd q e:=by rw[Up]; exact h1
    exact (Nat.eq_of_mul_eq_mul_left h2 h3).symm
  refine ⟨Qu hq0 hd,⟨e,eq⟩,⟨q,Ql _ _⟩,?_⟩
  rintro B ⟨s,hs⟩ ⟨t,ht⟩
  have h5:q*s=e*t:=by
    have:(Int.gcd b d:Int)*(q*s)=(Int.gcd b d:Int)*(e*t):=by
      rw[<-Qn,<-Qn,<-hq,<-he,<-hs,<-ht]
    exact Int.eq_of_mul_eq_mul_left hg this
  have h6:q ∣ t:=ZhV (b:=e) ⟨s,h5.symm⟩ cop
  obtain ⟨z,hz⟩:=h6
  exact ⟨z,by rw[ht,hz,<-Qn,Ql d q]⟩
end My
namespace My
open PySem L2 PyProof.Rows
section
variable{P:Program}{w:World}{K:PySem.W.Frag}{mg:Str->Option Value}{base:Heap}{CF CR:Addr}
theorem Zgx:FnScope ["kind", "number", "row"] ["kind", "number", "row"] (Zag ZcS):=‹2›
theorem ZfK(h:Here K mg "scaled_row" ZcS) (mt:ZlZ P w K mg base CF CR "times" (λ_ x y=>x*y)):Has P w K mg base "scaled_row" 3 ["kind", "number", "row"] (Zbc CF CR):=by
  refine h.has (λf fd F=>F.binds λ_ _ _ _ _ _ us hl=>by obtain ⟨_,_,_,rfl⟩:=Zdq hl; exact rfl) λf fd F=>F.ok Zgx (λvs H Q E h=>?_) (λcdv A outer s H vs Q E hr h=>?_)
  · obtain ⟨_,_,_,_,_,_,_,rfl,_⟩:=h
    rfl
  obtain ⟨κ,sk,r,cv,c,xs,f,rfl,hk,hc,hr',al,bc,bf,lf,k⟩:=h
  refine ⟨_,(Zae (Zaj (Za2 ["each"] [(0, "kind"),(1, "number")] rfl (ZaI (pv 2)) (by exact λ_ _ _ _=>(Zau (i:=0) (show (["each", "kind", "number"]:List Str).Nodup by decide +kernel) rfl (Or.inl rfl))) (by exact λ_ _ _ _=>(Ze5 ⟨rfl,rfl,rfl,rfl,rfl⟩ (pv 1) hr (Zaa (pv 2) (Zaa (pv 0) Zac)))) ⟨⟨rfl,rfl,Or.inl rfl⟩,⟨⟨rfl,rfl,Or.inl rfl⟩,trivial⟩⟩))),?_⟩
  refine ⟨_,rfl,r,rfl,⟨_,SqL.of hr'⟩,?_⟩
  have l:=al.1
  refine ZaG (K:=K) (a:=r) (xs:=xs) (λi ys H2=>Same H H2/\AllG (NR κ H2) ys ((f.take i).map (c * ·))) ⋯ ⟨Same.refl H,.nil⟩ (λi ys H2 _ q=>SqL.of (q.1 _ _ hr')) ?_ ?_
  · rintro i x ys H2 hx hl ⟨S,e⟩
    obtain ⟨y,hy,ny⟩:=al.get hx
    obtain ⟨C,dx,fs,ps,dvs,sp,h1,h2,h3,h4,rfl,h5⟩:=mt κ H2 sk (hk.same S)
    refine ⟨_,rfl,sk,C,dx,fs,ps,_,sp,rfl,h1,h2,h3,h4,_,rfl,_,rfl,h5 _ _ _ c y _ (Same.refl _) (hc.same S) (ny.same S) bc (bf y (Q9 hy)) λt H3 S3 nt=>?_⟩
    refine ⟨S.trans S3,?_⟩
    rw[Qm,hy,Qj]
    exact (e.mono λ_ _ n=>n.same S3).append (.one nt)
  · rintro ys H2 hl ⟨S,e⟩ D hD
    rw[l,W6] at e
    exact k _ D ys (S.trans (Zah hD _)) (S.free hD) Zaf (e.mono λ_ _ n=>n.same (Zah hD _))
end
section
variable{P:Program}{w:World}{K:PySem.W.Frag}{mg:Str->Option Value}{base:Heap}{CF CR:Addr}
theorem Zh0:FnScope ["kind", "row", "other"] ["kind", "row", "other"] (Zag Zd4):=‹2›
theorem Zhg(h:Here K mg "plus_row" Zd4) (Tz:mg "zip" = none) (mp:ZlZ P w K mg base CF CR "plus" (λ_ x y=>x+y)):Has P w K mg base "plus_row" 3 ["kind", "row", "other"] (Zc1 CF CR):=by
  refine h.has (λf fd F=>F.binds λ_ _ _ _ _ _ us hl=>by obtain ⟨_,_,_,rfl⟩:=Zdq hl; exact rfl) λf fd F=>F.ok Zh0 (λvs H Q E h=>?_) (λcdv A outer s H vs Q E hr h=>?_)
  · obtain ⟨_,_,_,_,_,_,_,_,rfl,_⟩:=h
    rfl
  obtain ⟨κ,sk,r1,r2,xs,ys,f,g,rfl,hk,h1,h2,a1,a2,b1,b2,lf,k⟩:=h
  refine ⟨_,(Zae (Zaj (Za2 ["left", "right"] [(0, "kind")] rfl (Zha (by rfl) Tz (Zaa (pv 1) (Zaa (pv 2) Zac))) (by exact λ_ _ _ _=>(ZhK (n:=2) K rfl rfl (Zby (Zau (i:=0) (show (["left", "right", "kind"]:List Str).Nodup by decide +kernel) rfl (Or.inl rfl)) (Zby (Zau (i:=1) (show (["left", "right", "kind"]:List Str).Nodup by decide +kernel) rfl (Or.inl rfl)) ZeT)))) (by exact λ_ _ _ _=>(Ze5 ⟨rfl,rfl,rfl,rfl,rfl⟩ (pv 2) hr (Zaa (pv 0) (Zaa (pv 1) Zac)))) ⟨⟨rfl,rfl,Or.inl rfl⟩,trivial⟩))),?_⟩
  refine ⟨_,rfl,_,rfl,r1,r2,rfl,⟨_,SqL.of h1⟩,⟨_,SqL.of h2⟩,?_⟩
  have l1:=a1.1
  have l2:=a2.1
  refine Ze6 (K:=K) (a:=r1) (b:=r2) (xs:=xs) (ys:=ys) (λi zs H2=>Same H H2/\AllG (NR κ H2) zs (List.zipWith (· + ·) (f.take i) (g.take i))) ⋯ ⟨Same.refl H,.nil⟩ (λi zs H2 q=>⟨SqL.of (q.1 _ _ h1),SqL.of (q.1 _ _ h2)⟩) ?_ ?_
  · rintro i x y T zs H2 hx hy hl nT ⟨S,e⟩
    obtain ⟨p,q,hp,hq,np,nq⟩:=a1.zip a2 hx hy
    have ST:=Zah nT (.tup [x,y])
    generalize upd H2 T (.tup [x,y])=H3 at *
    have S3:=S.trans ST
    obtain ⟨C,dx,fs,ps,dvs,sp,c1,c2,c3,c4,rfl,c5⟩:=mp κ H3 sk (hk.same S3)
    refine ⟨_,rfl,sk,C,dx,fs,ps,_,sp,rfl,c1,c2,c3,c4,_,rfl,_,rfl,c5 _ _ _ p q _ (Same.refl _) (np.same S3) (nq.same S3) (b1 p (Q9 hp)) (b2 q (Q9 hq)) λt H4 S4 nt=>?_⟩
    refine ⟨S3.trans S4,?_⟩
    rw[Qm,hp,Qm,hq]
    have lp:=(Qw.mp hp).1
    have lq:=(Qw.mp hq).1
    rw[show (some p).toList=[p] from rfl,show (some q).toList=[q] from rfl,List.zipWith_append (by rw[Wp,Wp]; omega)]
    exact (e.mono λ_ _ n=>n.same (ST.trans S4)).append (.one nt)
  · rintro zs H2 hl ⟨S,e⟩ D hD
    have ez:List.zipWith (· + ·) (f.take (min xs.length ys.length)) (g.take (min xs.length ys.length))=List.zipWith (· + ·) f g:=by
      rw[<-List.take_zipWith,Ws]
      rw[List.length_zipWith]
      omega
    rw[ez] at e
    exact k _ D zs (S.trans (Zah hD _)) (S.free hD) Zaf (e.mono λ_ _ n=>n.same (Zah hD _))
end
section
variable{P:Program}{w:World}{K:PySem.W.Frag}{mg:Str->Option Value}{base:Heap}{CF CR:Addr}
theorem Zh1(kd:Kd K mg CF CR)(hF:HasM P w K mg base CF "is_nought" 2 ["self", "one"] [] (Zef K CF)) (hR:HasM P w K mg base CR "is_nought" 2 ["self", "one"] [] Zeg):ZiH P w K mg base CF CR:=by
  intro κ H s hk
  cases κ with
  | q =>
    obtain ⟨dx,h⟩:=hk
    refine ⟨CF,dx,[],_,_,_,h,kd.clF,hF,rfl,rfl,λu x Q hu k=>?_⟩
    obtain ⟨a,rfl,hu⟩:=hu
    refine ⟨s,a,_,_,rfl,SqT.of hu,k _ ?_⟩
    rw[decide_eq_true_iff]
    exact Rat.num_eq_zero
  | r p hp =>
    obtain ⟨dx,h⟩:=hk
    refine ⟨CR,dx,fsR p,_,_,_,h,kd.clR,hR,Zds _ ∅,rfl,λu x Q hu k=>?_⟩
    have hu:u = .int x.val:=hu
    subst hu
    refine ⟨s,_,rfl,k _ ?_⟩
    rw[decide_eq_true_iff]
    letI:=hp.nz
    have z:(0:Fin p).val=0:=by simp
    constructor
    · intro e
      exact Fin.ext (by rw[z]; omega)
    · intro e
      have e:x=(0:Fin p):=e
      rw[e,z]; rfl
end
section
variable{P:Program}{w:World}{K:PySem.W.Frag}{mg:Str->Option Value}{base:Heap}{CF CR cT:Addr}
theorem sc_make_turn:FnScope ["kind", "rows", "turn", "place", "kept"] ["kind", "rows", "turn"] (Zag ZdA):=‹2›
theorem Zhh(h:Here K mg "make_turn" ZdA) (h_scaled_row:Has P w K mg base "scaled_row" 3 ["kind", "number", "row"] (Zbc CF CR)) (h_plus_row:Has P w K mg base "plus_row" 3 ["kind", "row", "other"] (Zc1 CF CR)):Has P w K mg base "make_turn" 4 ["kind", "rows", "turn"] (Zb7 CF CR):=by
  refine h.has (λf fd F=>F.binds λ_ _ _ _ _ _ us hl=>by obtain ⟨_,_,_,rfl⟩:=Zdq hl; exact rfl) λf fd F=>F.ok sc_make_turn (λvs H Q E h=>?_) (λcdv A outer s H vs Q E hr h=>?_)
  · obtain ⟨_,_,_,_,_,_,_,rfl,_⟩:=h
    rfl
  obtain ⟨κ,sk,r,as,R,tv,t,rfl,hk,hR,rx,nr,l1000,ht,ok,pre,k⟩:=h
  have nd:=sc_make_turn.nd
  refine ⟨_,(Zab (Zak (i:=3) nd rfl (Or.inl rfl) (Zar Zan (pv 2) Zad (λ_ _=>rfl)))
    (Zae (ZaC (Zaq Zbh (Zar Zan (pv 2) Zad (λ_ _=>rfl)) Zbe (Zap _)) (Zab (Zak (i:=4) nd rfl (Or.inl rfl) (Zar Zav (pv 1) (pv 3) (λ_ _=>rfl)))
      (Zab (ZfP (Zar Zav (pv 1) (Zar Zan (pv 2) Zad (λ_ _=>rfl)) (λ_ _=>rfl)) (ZfO (pv 1) (pv 3) Zdd))
      (Zae (ZfP (pv 4) (ZfO (pv 1) (Zar Zan (pv 2) Zad (λ_ _=>rfl)) Zdd))))) (Zae (ZaC (Zaq Zbh (Zar Zan (pv 2) Zad (λ_ _=>rfl)) Zbe (Zap _)) (Zae (ZfP (Zao h_scaled_row hr (by rfl) (Zaa (pv 0) (Zaa (Zar Zan (pv 2) Zad (λ_ _=>rfl)) (Zaa (Zar Zav (pv 1) (pv 3) (λ_ _=>rfl)) Zac)))) (ZfO (pv 1) (pv 3) Zdd))) (Zae (ZfP (Zao h_plus_row hr (by rfl) (Zaa (pv 0) (Zaa (Zar Zav (pv 1) (pv 3) (λ_ _=>rfl)) (Zaa (Zao h_scaled_row hr (by rfl) (Zaa (pv 0) (Zaa (Zar Zan (pv 2) Zad (λ_ _=>rfl)) (Zaa (Zar Zav (pv 1) (Zar Zan (pv 2) Zad (λ_ _=>rfl)) (λ_ _=>rfl)) Zac)))) Zac)))) (ZfO (pv 1) (pv 3) Zdd)))))))),?_⟩
  have la:=rx.1
  have lm:(as.map V.ref).length=R.length:=by rw[Q1]; exact la
  cases t with
  | swap i j =>
    obtain ⟨a,rfl,ha⟩:=ht
    obtain ⟨⟨i0,i1⟩,⟨j0,j1⟩,ne⟩:=ok
    obtain ⟨b,xs,hb,hx,al⟩:=rx.get (i:=i.toNat) ⋯
    obtain ⟨c,ys,hc,hy,bl⟩:=rx.get (i:=j.toNat) ⋯
    refine ⟨_,rfl,a,_,1,_,rfl,rfl,SqT.of ha,rfl,?_⟩
    refine ⟨_,rfl,a,_,0,_,rfl,rfl,SqT.of ha,rfl,rfl,_,rfl,Zbv rfl ?_⟩
    refine ⟨_,rfl,_,rfl,r,_,_,_,rfl,rfl,SqL.of hR,Zfn i0 hb,?_⟩
    refine ⟨_,rfl,_,rfl,a,_,2,_,rfl,rfl,SqT.of ha,rfl,r,_,_,_,rfl,rfl,SqL.of hR,Zfn j0 hc,?_⟩
    refine ⟨_,rfl,_,rfl,r,_,_,_,rfl,rfl,hR,Zei i0 (by rw[lm]; exact i1),?_⟩
    rw[ZcA]
    have nra:a≠r:=λz=>by rw[z,hR] at ha; cases ha
    refine ⟨_,rfl,_,rfl,_,rfl,a,_,2,_,rfl,rfl,SqT.of (by rw[Zas nra]; exact ha),rfl,r,_,_,_,rfl,rfl,Zaf,Zei j0 (by rw[Q1,W7,la]; exact j1),?_⟩
    rw[ZcA]
    have O:Off [r] H (upd (upd H r (.lst ((as.set i.toNat c).map V.ref))) r (.lst (((as.set i.toNat c).set j.toNat b).map V.ref))):=λx o n q=>by
      have nx:x≠r:=λz=>n (by rw[z]; exact Q6.mpr rfl)
      rw[Zas nx,Zas nx]; exact q
    have rx':=rx.off nr hR O
    obtain ⟨xs',hx',al'⟩:=rx'.2 i.toNat b _ hb (Q2 ⋯)
    obtain ⟨ys',hy',bl'⟩:=rx'.2 j.toNat c _ hc (Q2 ⋯)
    refine k _ ((as.set i.toNat c).set j.toNat b) O Zaf ?_ (λm=>nr (ZiG hb hc m)) (λndp=>Zjp ndp hb hc) (λx m => .inl (ZiG hb hc m))
    show RowsX κ _ _ ((R.set i.toNat (R.getD j.toNat [])).set j.toNat (R.getD i.toNat []))
    rw[ZaD (Q2 (show j.toNat<R.length by omega)),ZaD (Q2 (show i.toNat<R.length by omega))]
    exact (rx'.set _ hy' bl').set _ hx' al'
  | scale i c =>
    obtain ⟨a,u,rfl,ha,nu⟩:=ht
    obtain ⟨⟨i0,i1⟩,_⟩:=ok
    obtain ⟨b,xs,hb,hx,al⟩:=rx.get (i:=i.toNat) ⋯
    have eg:=ZaD (Q2 (show i.toNat<R.length by omega))
    obtain ⟨bc,bx⟩:=pre
    rw[eg] at bx
    refine ⟨_,rfl,a,_,1,_,rfl,rfl,SqT.of ha,rfl,?_⟩
    refine ⟨_,rfl,a,_,0,_,rfl,rfl,SqT.of ha,rfl,rfl,_,rfl,Zb6 s21 ?_⟩
    refine ⟨_,rfl,a,_,0,_,rfl,rfl,SqT.of ha,rfl,rfl,_,rfl,Zbv rfl ?_⟩
    refine ⟨_,rfl,_,rfl,a,_,2,_,rfl,rfl,SqT.of ha,rfl,_,rfl,_,rfl,r,_,_,_,rfl,rfl,SqL.of hR,Zfn i0 hb,κ,sk,b,u,c,xs,_,rfl,hk,nu,hx,al,bc,bx,l1000 _ (Qe ⋯),λH1 D ys S1 nD hD bl=>?_⟩
    refine ⟨_,rfl,_,rfl,r,_,_,_,rfl,rfl,S1 _ _ hR,Zei i0 (by rw[lm]; exact i1),?_⟩
    rw[ZcA]
    have O:Off [r] H (upd H1 r (.lst ((as.set i.toNat D).map V.ref))):=Za4 S1
    have O1:Off [r] H1 (upd H1 r (.lst ((as.set i.toNat D).map V.ref))):=Za4 (Same.refl H1)
    have nDr:D≠r:=λz=>by rw[z,hR] at nD; cases nD
    have nDa:D∉as:=λm=>by
      obtain ⟨n,hn,e⟩:=Wf m
      obtain ⟨zs,hz,_⟩:=rx.2 n D _ (by rw[<-e]; exact Q2 hn) (Q2 (show n<R.length by omega))
      rw[hz] at nD; cases nD
    refine k _ (as.set i.toNat D) O Zaf ?_ (λm=>?_) (λndp=>Zhe ndp nDa) (λx m=>?_)
    · show RowsX κ _ _ (R.set i.toNat ((R.getD i.toNat []).map (c * ·)))
      rw[eg]
      exact (rx.off nr hR O).set _ (by rw[Zas nDr]; exact hD) (bl.mono λ_ _ n=>n.off (S1 _ _ hR) O1)
    · rcases W8 m with m | z
      · exact nr m
      · exact nDr z.symm
    · rcases W8 m with m | rfl
      · exact .inl m
      · exact .inr nD
  | add i j c =>
    obtain ⟨a,u,rfl,ha,nu⟩:=ht
    obtain ⟨⟨i0,i1⟩,⟨j0,j1⟩,_⟩:=ok
    obtain ⟨b,xs,hb,hx,al⟩:=rx.get (i:=i.toNat) ⋯
    obtain ⟨e,zs,he,hz,el⟩:=rx.get (i:=j.toNat) ⋯
    have eg:=ZaD (Q2 (show i.toNat<R.length by omega))
    have eh:=ZaD (Q2 (show j.toNat<R.length by omega))
    obtain ⟨bc,bx,by'⟩:=pre
    rw[eg] at bx
    rw[eh] at by'
    refine ⟨_,rfl,a,_,1,_,rfl,rfl,SqT.of ha,rfl,?_⟩
    refine ⟨_,rfl,a,_,0,_,rfl,rfl,SqT.of ha,rfl,rfl,_,rfl,Zb6 s31 ?_⟩
    refine ⟨_,rfl,a,_,0,_,rfl,rfl,SqT.of ha,rfl,rfl,_,rfl,Zb6 s32 ?_⟩
    refine ⟨_,rfl,_,rfl,_,rfl,r,_,_,_,rfl,rfl,SqL.of hR,Zfn i0 hb,_,rfl,_,rfl,a,_,3,_,rfl,rfl,SqT.of ha,rfl,_,rfl,_,rfl,a,_,2,_,rfl,rfl,SqT.of ha,rfl,r,_,_,_,rfl,rfl,SqL.of hR,Zfn j0 he,κ,sk,e,u,c,zs,_,rfl,hk,nu,hz,el,bc,λy hy=>(by' y hy).1,l1000 _ (Qe ⋯),λH1 D1 ws S1 nD1 hD1 wl=>?_⟩
    refine ⟨κ,sk,b,D1,xs,ws,_,_,rfl,hk.same S1,S1 _ _ hx,hD1,al.mono λ_ _ n=>n.same S1,wl,bx,λy hy=>?_,l1000 _ (Qe ⋯),λH2 D ys S2 nD hD bl=>?_⟩
    · obtain ⟨z,hz',rfl⟩:=Qi.mp hy
      exact (by' z hz').2
    have S12:=S1.trans S2
    refine ⟨_,rfl,_,rfl,r,_,_,_,rfl,rfl,S12 _ _ hR,Zei i0 (by rw[lm]; exact i1),?_⟩
    rw[ZcA]
    have O:Off [r] H (upd H2 r (.lst ((as.set i.toNat D).map V.ref))):=Za4 S12
    have O1:Off [r] H2 (upd H2 r (.lst ((as.set i.toNat D).map V.ref))):=Za4 (Same.refl H2)
    have nD0:H D=none:=S1.free nD
    have nDr:D≠r:=λz=>by rw[z,hR] at nD0; cases nD0
    have nDa:D∉as:=λm=>by
      obtain ⟨n,hn,e⟩:=Wf m
      obtain ⟨zs,hz,_⟩:=rx.2 n D _ (by rw[<-e]; exact Q2 hn) (Q2 (show n<R.length by omega))
      rw[hz] at nD0; cases nD0
    refine k _ (as.set i.toNat D) O Zaf ?_ (λm=>?_) (λndp=>Zhe ndp nDa) (λx m=>?_)
    · show RowsX κ _ _ (R.set i.toNat (List.zipWith (· + ·) (R.getD i.toNat []) ((R.getD j.toNat []).map (c * ·))))
      rw[eg,eh]
      exact (rx.off nr hR O).set _ (by rw[Zas nDr]; exact hD) (bl.mono λ_ _ n=>n.off (S12 _ _ hR) O1)
    · rcases W8 m with m | z
      · exact nr m
      · exact nDr z.symm
    · rcases W8 m with m | rfl
      · exact .inl m
      · exact .inr nD0
end
end My
namespace My
open PySem L2 PyProof.Rows
section
variable{P:Program}{w:World}{K:PySem.W.Frag}{mg:Str->Option Value}{base:Heap}{CF CR:Addr}
theorem Zjr:FnScope ["kind", "turn"] ["kind", "turn"] (Zag Ze9):=‹2›
theorem Zjs(h:Here K mg "is_idle" Ze9) (mn:ZdF P w K mg base CF CR) (nt:ZiH P w K mg base CF CR):Has P w K mg base "is_idle" 4 ["kind", "turn"] (Zek CF CR):=by
  refine h.has (λf fd F=>F.binds λ_ _ _ _ _ _ us hl=>by obtain ⟨_,_,rfl⟩:=ZdM hl; exact rfl) λf fd F=>F.ok Zjr (λvs H Q E h=>?_) (λcdv A outer s H vs Q E hr h=>?_)
  · obtain ⟨_,_,_,_,rfl,_⟩:=h
    rfl
  obtain ⟨κ,sk,tv,t,rfl,hk,ht,k⟩:=h
  refine ⟨_,(Zab (ZaC (Zaq Zbh (Zar Zan (pv 1) Zad (λ_ _=>rfl)) Zbe (Zap _)) (Zae (Zaj (ZaM (ZmD hr) (Zar Zan (pv 1) Zad (λ_ _=>rfl)) (Zbl (pv 0) ZeC hr (Zaa Zad Zac)) (Zap _)))) Zat)
    (Zae (Zaj (ZbA (ZaM Zbh (Zar Zan (pv 1) Zad (λ_ _=>rfl)) Zbe (Zap _)) (Zb2 (Zbz (pv 0) hr (Zaa (Zar Zan (pv 1) Zad (λ_ _=>rfl)) Zac))))))),?_⟩
  cases t with
  | scale i c =>
    obtain ⟨a,u,rfl,ha,nu⟩:=ht
    obtain ⟨C,dx,fs,ps,dvs,sp,c1,c2,c3,c4,rfl,c5⟩:=mn κ H sk hk
    refine ⟨_,rfl,a,_,0,_,rfl,rfl,SqT.of ha,rfl,rfl,_,rfl,Zbv rfl ?_⟩
    refine ⟨_,rfl,a,_,2,_,rfl,rfl,SqT.of ha,rfl,_,rfl,sk,C,dx,fs,ps,_,sp,rfl,c1,c2,c3,c4,c5 H 1 1 _ _ (Same.refl H) Zfq λv H1 S1 nv=>?_⟩
    obtain ⟨b,hb,eb⟩:=ZoA (nu.same S1) nv
    exact ⟨b,hb,k H1 b S1 eb⟩
  | swap i j =>
    obtain ⟨a,rfl,ha⟩:=ht
    refine ⟨_,rfl,a,_,0,_,rfl,rfl,SqT.of ha,rfl,rfl,_,rfl,Zb6 s12 ?_⟩
    refine ⟨_,rfl,a,_,0,_,rfl,rfl,SqT.of ha,rfl,rfl,_,rfl,Zb6 s13 ?_⟩
    exact k H _ (Same.refl H) ⟨λz=>(nomatch z),λz=>absurd z id⟩
  | add i j c =>
    obtain ⟨a,u,rfl,ha,nu⟩:=ht
    obtain ⟨C,dx,fs,ps,dvs,sp,c1,c2,c3,c4,rfl,c5⟩:=nt κ H sk hk
    refine ⟨_,rfl,a,_,0,_,rfl,rfl,SqT.of ha,rfl,rfl,_,rfl,Zb6 s32 ?_⟩
    refine ⟨_,rfl,a,_,0,_,rfl,rfl,SqT.of ha,rfl,rfl,_,rfl,Zbv rfl ?_⟩
    exact ⟨_,rfl,sk,C,dx,fs,ps,_,sp,rfl,c1,c2,c3.mono ∅,c4,_,rfl,a,_,3,_,rfl,rfl,SqT.of ha,rfl,c5 u c _ nu λb hb=>k H b (Same.refl H) hb⟩
theorem ZnC:FnScope ["kind", "rows", "turns", "turn"] ["kind", "rows", "turns", "turn"] (Zag Zkk):=‹2›
theorem ZnD(h:Here K mg "take" Zkk) (h_is_idle:Has P w K mg base "is_idle" 4 ["kind", "turn"] (Zek CF CR)) (h_make_turn:Has P w K mg base "make_turn" 4 ["kind", "rows", "turn"] (Zb7 CF CR)):Has P w K mg base "take" 5 ["kind", "rows", "turns", "turn"] (Zel CF CR):=by
  refine h.has (λf fd F=>F.binds λ_ _ _ _ _ _ us hl=>by obtain ⟨_,_,_,_,rfl⟩:=Zpe hl; exact rfl) λf fd F=>F.ok ZnC (λvs H Q E h=>?_) (λcdv A outer s H vs Q E hr h=>?_)
  · obtain ⟨_,_,_,_,_,_,_,_,_,_,_,_,rfl,_⟩:=h
    rfl
  obtain ⟨κ,sk,r,u,Z,R0,pw,m,R,ts,tv,t,rfl,hk,wk,l4,ht,ok,pre,k⟩:=h
  refine ⟨_,(Zae (ZaC (ZbR (Zbo (Zao h_is_idle hr (by rfl) (Zaa (pv 0) (Zaa (pv 3) Zac))))) (Zab (ZaL (Zao h_make_turn hr (by rfl) (Zaa (pv 0) (Zaa (pv 1) (Zaa (pv 3) Zac)))))
      (Zae (ZaL (Zf3 PySem.F.plainAttrs_list PySem.F.slot_list_append PySem.F.type_list_append Zci (pv 2) (Zaa (pv 3) Zac))))) Zat)),?_⟩
  have lR:=wk.len
  refine ⟨_,rfl,_,rfl,κ,sk,tv,t,rfl,hk,ht,λH1 b S1 hb=>⟨_,rfl,?_⟩⟩
  have wk1:=wk.same S1
  cases b with
  | true =>
    refine ZeF ?_
    have e:=Zl2 wk.wd (by rw[lR]; exact ok) (hb.mp rfl)
    exact k H1 ts (λb o _ q=>S1 _ _ q) (by rw[e]; exact wk1) ⋯
  | false =>
    refine ZfG ?_
    obtain ⟨as,h1,h2,h3⟩:=wk1.rows
    obtain ⟨tvs,g1,g2⟩:=wk1.turns
    refine ⟨_,rfl,_,rfl,_,rfl,κ,sk,r,as,R.map (List.take pw),tv,t,rfl,hk.same S1,h1,h2,h3 r wk.zr,λf hf=>by rw[ZdW wk.wd wk.wm f hf]; exact Q0 wk.wm wk.m7,ht.same S1,by rw[Q1,lR]; exact ok,(Zl4 pw pre).pre,λH2 as' O hR2 rx2 nr2 _ sub=>?_⟩
    rw[<-ZiJ] at rx2
    have nu:u∉[r]:=λz=>wk.ne (Q6.mp z).symm
    have qu:=O _ _ nu g1
    have lt:=g2.1
    refine ⟨_,rfl,.inl ⟨rfl,_,SqL.of qu⟩,_,rfl,u,tvs,tv,rfl,rfl,qu,Q5 (show tvs.length<1000 by omega) ∅,?_⟩
    have nza:∀z∈Z,z∉as':=λz hz q=>by
      rcases sub z q with q | q
      · exact h3 z hz q
      · obtain ⟨o,e⟩:=wk1.za z hz
        rw[e] at q; cases q
    have nua:=nza u wk.zu
    have O2:Off [u] H2 (upd H2 u (.lst (tvs++[tv]))):=Za4 (Same.refl H2)
    have Oa:Off [r,u] H1 (upd H2 u (.lst (tvs++[tv]))):=λb o nb q=>by
      have n1:b∉[r]:=λz=>nb (by rw[Q6.mp z]; exact Qv)
      have n2:b∉[u]:=λz=>nb (by rw[Q6.mp z]; simp)
      exact O2 _ _ n2 (O _ _ n1 q)
    refine k _ (ts++[t]) (λb o nb q=>Oa b o nb (S1 _ _ q)) ⟨⟨as',?_,rx2.off nua qu O2,nza⟩,⟨tvs++[tv],Zaf,?_⟩,?_,?_,?_,wk.wid,wk.ne,wk.m7,?_,wk.zr,wk.zu,?_,wk.wm⟩ (by simp)
    · exact O2 _ _ (λz=>wk.ne (Q6.mp z)) hR2
    · exact (g2.mono λ_ _ n=>n.off2 h1 g1 Oa).append (.one ((ht.same S1).off2 h1 g1 Oa))
    · rw[Zcj,<-wk.run]
    · intro x hx
      rcases Qf.mp hx with hx | hx
      · exact wk.ok x hx
      · rw[Q6.mp hx]; exact ok
    · intro i x hx
      rw[List.getElem?_append] at hx
      split at hx
      · rename_i hi
        rw[List.take_append_of_le_length ⋯]
        exact wk.pre i x hx
      · rename_i hi
        have hi2:i=ts.length:=by
          cases q:i-ts.length with
          | zero=>omega
          | succ n=>rw[q] at hx; simp at hx
        subst hi2
        rw[Um] at hx
        cases hx
        rw[List.take_left,<-wk.run]
        exact pre
    · rw[Qd]; show _+1<=400; omega
    · intro z hz
      by_cases e1:z=u
      · subst e1; exact ⟨_,Zaf⟩
      · by_cases e2:z=r
        · subst e2; exact ⟨_,O2 _ _ (λq=>wk.ne (Q6.mp q)) hR2⟩
        · obtain ⟨o,e⟩:=wk1.za z hz
          refine ⟨o,Oa _ _ (λq=>?_) e⟩
          rcases Q8.mp q with q | q
          · exact e2 q
          · exact e1 (Q6.mp q)
theorem sc_first_filled:FnScope ["kind", "rows", "start", "column", "place"] ["kind", "rows", "start", "column"] (Zag Zcd):=‹2›
theorem Zfr(h:Here K mg "first_filled" Zcd) (T:Nm mg) (nt:ZiH P w K mg base CF CR):Has P w K mg base "first_filled" 3 ["kind", "rows", "start", "column"] (ZbV CF CR):=by
  refine h.has (λf fd F=>F.binds λ_ _ _ _ _ _ us hl=>by obtain ⟨_,_,_,_,rfl⟩:=Zpe hl; exact rfl) λf fd F=>F.ok sc_first_filled (λvs H Q E h=>?_) (λcdv A outer s H vs Q E hr h=>?_)
  · obtain ⟨_,_,_,_,_,_,_,_,_,_,_,_,rfl,_⟩:=h
    rfl
  obtain ⟨κ,sk,r,u,Z,R0,pw,m,R,ts,l,c,rfl,hk,wk,cm,ln,n1000,k⟩:=h
  have nd:=sc_first_filled.nd
  refine ⟨_,(Zab (Zbf PassesOwn.never rfl (ZgT (by rfl) T.range (Zaa (pv 2) (Zaa (Zam Zai (by rfl) T.len boot_len (Zaa (pv 1) Zac)) Zac))) (Zau (i:=4) nd rfl (Or.inl rfl)) (Zae (ZaC (ZbR (Zbo (Zbz (pv 0) hr (Zaa (Zar Zav (Zar Zav (pv 1) (pv 4) (λ_ _=>rfl)) (pv 3) (λ_ _=>rfl)) Zac)))) (Zae (Zaj (pv 4))) Zat)))
    (Zae (Zaj (Zam Zai (by rfl) T.len boot_len (Zaa (pv 1) Zac))))),?_⟩
  obtain ⟨as,hR,la⟩:=wk.rl
  obtain ⟨C,dx,fs,ps,dvs,sp,c1,c2,c3,c4,rfl,c5⟩:=nt κ H sk hk
  refine ⟨_,rfl,_,rfl,r,_,rfl,.inl (SqL.of hR),_,_,rfl,?_⟩
  rw[Q1,la]
  refine ⟨⟨⋯,⋯,⋯,⋯⟩,?_⟩
  rw[show ((R0.length:Int)-(l:Int)).toNat=R0.length-l by omega]
  refine Zba (lo:=(l:Int)) (n:=R0.length-l) (λi σ H2=>∃z:Option V,σ=[some (.ref sk),some (.ref r),some (.int (l:Int)),some (.int (c:Int)),z]/\H2=H/\∀j,l<=j->j<l+i->ent R j c=0) ⟨_,rfl,rfl,λj a b=>by omega⟩ ?_ ?_
  · rintro i σ H2 hi ⟨z,rfl,rfl,hz⟩
    obtain ⟨as',a,xs,v,e1,e2,e3,e4,e5,e6⟩:=wk.ent (i:=l+i) (j:=c) ⋯ cm
    have ec:((l:Int)+(i:Int))=((l+i:Nat):Int):=by omega
    refine ⟨_,rfl,sk,C,dx,fs,ps,_,sp,rfl,c1,c2,c3,c4,_,rfl,_,rfl,r,_,_,_,rfl,rfl,SqL.of e1,(by rw[ec]; exact Zbq e3),_,rfl,a,_,_,_,rfl,rfl,SqL.of e4,ZbE e5,c5 v _ _ e6 λb hb=>⟨_,rfl,?_⟩⟩
    cases b with
    | false =>
      refine ZfG ⟨_,rfl,?_⟩
      show Q (V.int ((l:Int)+(i:Int))) _
      rw[ec]
      exact k (l+i) ⋯ ⋯ (λ_ z=>by have:=hb.mpr z; cases this) (λj a b=>hz j a b)
    | true =>
      refine ZeF ⟨_,rfl,rfl,λj a b=>?_⟩
      by_cases e:j=l+i
      · rw[e]; exact hb.mp rfl
      · exact hz j a ⋯
  · rintro σ H2 ⟨z,rfl,rfl,hz⟩
    refine ⟨_,rfl,r,_,rfl,.inl (SqL.of hR),?_⟩
    rw[Q1,la]
    exact k R0.length ln (Q4 _) (λz=>by omega) (λi a b=>hz i a ⋯)
end
end My
namespace My
open PySem L2 PyProof.Rows
section
variable{κ:KX}
structure QT (κ:KX) (pw:Nat) (R:List (List κ.F)):Prop where
  l4:κ = .q->R.length<=4
  ex:∃(B:Int) (b g:Nat),0<B/\Bits b B/\b+g<=300/\∀f∈R,(∀x∈f.take pw,QS κ B 300 x)/\∀x∈f.drop pw,QS κ 1 g x
theorem QS.dv{B:Int}(hB:0<B){a:Nat}{x:κ.F}(h:QS κ B a x):DvB κ B x:=by
  cases κ with
  | r p hp=>exact trivial
  | q =>
    obtain ⟨X,rfl,_⟩:=h
    exact (ZbU X hB).1
theorem Zgy{m:Nat}{R:List (List κ.F)}(wd:Wid m R){i j:Nat}(hi:i<R.length)(hj:j<m):ent R i j∈R.getD i []:=by
  have l:=wd.get hi
  unfold ent
  generalize R.getD i []=f at *
  rw[Q3,Q2 ⋯]
  exact Qe _
theorem Zpl:K1 κ≠0:=λz=>Fd.zne z.symm
theorem ZnE{f:List κ.F}{A B:Int}{b:Nat}(hB:0<B)(b3:b<=300)(bB:Bits b B)(hA:ZmG κ f A)(hf:∀x∈f,QS κ B 300 x):∃xA:κ.F,NumV κ A xA/\xA≠0/\B1s κ xA/\QS κ 1 b xA/\∀x∈f,QS κ 1 300 (xA*x):=by
  cases κ with
  | r p hp =>
    have hA:A=1:=hA
    subst hA
    exact ⟨K1 _,Zfq,Zpl,trivial,trivial,λ_ _=>trivial⟩
  | q =>
    obtain ⟨A0,dv,mn⟩:=hA
    have hAB:A ∣ B:=mn B λx hx=>QS.dv hB (hf x hx)
    have bA:Bits b A:=bB.le (ZaZ hAB ⋯)
    refine ⟨(A:Rat),⟨rfl,rfl⟩,λz=>?_,⟨bA.up ⋯,Bits.of (by show 1<_; exact Q5 (show 1<2^1 by decide) (Qa ∅ ∅))⟩,⟨A,(Qs (A:Rat)).symm,bA⟩,λx hx=>?_⟩
    · have:Rat.num (A:Rat)=Rat.num (0:Rat):=congrArg Rat.num z
      have:A=0:=this
      omega
    · obtain ⟨X,e,bX⟩:=hf x hx
      obtain ⟨q,hq⟩:=dv x hx
      obtain ⟨C,hC⟩:=hAB
      have hd:=(Za8 x).pos
      refine ⟨Rat.num x*q,?_,bX.le ?_⟩
      · show (A:Rat)*x=_
        conv=>lhs; rw[<-Qs x,show (A:Rat)=Rat.divInt A 1 from (Qs (A:Rat)).symm]
        rw[Wm,W5 ⋯ ∅,U2,Uy,hq]
        grind
      · have e1:=Zfm X hB
        have e:x=Rat.divInt X B:=e
        rw[<-e] at e1
        have e2:X=Rat.num x*q*C:=by
          refine Int.eq_of_mul_eq_mul_right (a:=(Rat.den x:Int)) ⋯ ?_
          rw[<-e1,hC,hq]
          grind
        have C0:C≠0:=λz=>by rw[z,Int.mul_zero] at hC; omega
        rw[e2,Qq (Rat.num x*q) C]
        exact Nat.le_mul_of_pos_right _ ⋯
theorem Ech.scale{R R':List (List κ.F)}{n c:Nat}{ls:List Nat}{x:κ.F}(h:Ech R n c ls x)(e:∀i<n,∀j,ent R' i j=if i<ls.length then Fd.inv x*ent R i j else ent R i j):Ech R' n c ls 1:=by
  have hx:=Fd.mul_inv x h.x0
  have le:=h.le
  refine ⟨h.le,h.lt,h.inc,λz=>Fd.zne z.symm,λk hk i hi=>?_,λi a b j hj=>?_,λk hk j hj=>?_⟩
  · rw[e i hi,h.col k hk i hi]
    by_cases e1:i=k
    · rw[if_pos e1,if_pos e1,if_pos ⋯]; grind
    · rw[if_neg e1,if_neg e1]
      split
      · grind
      · rfl
  · rw[e i b,if_neg ⋯]; exact h.low i a b j hj
  · rw[e k ⋯,if_pos hk,h.pre k hk j hj]; grind
end
inductive ZbW (CF CR:Addr) (vs:List V) (H:Hp) (Q:VK) (zE:XK):Prop
  | mk (κ:KX) (s r u:Addr) (Z:List Addr) (R0:List (List κ.F)) (pw m:Nat) (_:vs=[.ref s,.ref r,.ref u]) (_:KdX CF CR κ H s) (_:Wk κ Z R0 pw m r u H R0 []) (_:QT κ pw R0) (_:R0.length<=7) (_:∀H' R' ts',Off [r,u] H H'->Wk κ Z R0 pw m r u H' R' ts'->ts'.length<=R0.length->Stg κ R' 0 1->Q .non H'):ZbW CF CR vs H Q zE
inductive ZbX (CF CR:Addr) (vs:List V) (H:Hp) (Q:VK) (zE:XK):Prop
  | mk (κ:KX) (s r u:Addr) (Z:List Addr) (R0:List (List κ.F)) (pw m:Nat) (R:List (List κ.F)) (ts:List (Tn κ)) (l c:Nat) (lv:V) (x:κ.F) (PQ PN:κ.F->Prop) (_:vs=[.ref s,.ref r,.ref u,.int (l:Int),.int (c:Int),lv]) (_:KdX CF CR κ H s) (_:Wk κ Z R0 pw m r u H R ts) (_:l<R0.length) (_:c<pw) (_:NR κ H lv x) (_:x≠0) (_:ent R l c≠0) (_:AllR PQ R) (_:PivB x PQ PN) (_:R0.length<=7) (_:ts.length+3*R0.length<=400) (_:∀H' R' ts',Off [r,u] H H'->Wk κ Z R0 pw m r u H' R' ts'->(∀i<R0.length,∀j,ent R' i j=ZkA R l c x i j)->ts'.length<=ts.length+3*R0.length->Q .non H'):ZbX CF CR vs H Q zE
inductive Zen (CF CR:Addr) (vs:List V) (H:Hp) (Q:VK) (zE:XK):Prop
  | mk (κ:KX) (s tb:Addr) (rs:List Addr) (R0:List (List κ.F)) (pw m:Nat) (_:vs=[.ref s,.ref tb]) (_:KdX CF CR κ H s) (_:H tb=some (.lst (rs.map V.ref))) (_:RowsX κ H rs (R0.map (List.take pw))) (_:Wid m R0) (_:pw<=m) (_:1<=R0.length) (_:R0.length<=7) (_:pw<=7) (_:m<=1000) (_:QT κ pw R0) (_:∀(H':Hp) (t r u L:Addr) (Z:List Addr) (v:V) (R':List (List κ.F)) (ts:List (Tn κ)) (ls:List Nat) (x:κ.F),Same H H'->H' t=some (.tup [.ref r,.ref u,.ref L,v])->H r=none->H u=none->H L=none->Wk κ Z R0 pw m r u H' R' ts->L∈Z->L≠r->L≠u->H' L=some (.lst (ls.map λ(i:Nat)=>V.int (i:Int)))->NR κ H' v x->Ech R' R0.length pw ls x->Stg κ R' ls.length x->ts.length<=180->Q (.ref t) H'):Zen CF CR vs H Q zE
inductive Zgz (CF CR:Addr) (vs:List V) (H:Hp) (Q:VK) (zE:XK):Prop
  | mk (κ:KX) (s tb:Addr) (rs:List Addr) (R0:List (List κ.F)) (pw m:Nat) (_:vs=[.ref s,.ref tb]) (_:KdX CF CR κ H s) (_:H tb=some (.lst (rs.map V.ref))) (_:RowsX κ H rs (R0.map (List.take pw))) (_:Wid m R0) (_:pw<=m) (_:1<=R0.length) (_:R0.length<=7) (_:pw<=7) (_:m<=1000) (_:QT κ pw R0) (_:∀(H':Hp) (t D u L:Addr) (rs':List Addr) (tvs:List V) (ts:List (Tn κ)) (ls:List Nat),Same H H'->H' t=some (.tup [.ref D,.ref u,.ref L])->H' D=some (.lst (rs'.map V.ref))->RowsX κ H' rs' ((ZaE ts R0).map (List.take pw))->H' u=some (.lst tvs)->AllG (TR κ H') tvs ts->H' L=some (.lst (ls.map λ(i:Nat)=>V.int (i:Int)))->(∀t∈ts,t.ok R0.length)->(∀(i:Nat) t,ts[i]?=some t->t.preS (ZaE (ts.take i) R0))->ts.length<=200->Ech (ZaE ts R0) R0.length pw ls 1->(κ = .q->∃D:Int,0<D/\Bits (dS ls.length) D/\∀i,ls.length<=i->i<R0.length->∀j<m,QS κ D (aS ls.length) (ent (ZaE ts R0) i j))->H D=none->H u=none->H L=none->(∀a∈rs',H a=none)->rs'.Nodup->(∀a∈rs',a≠D/\a≠u/\a≠L)->D≠u->D≠L->u≠L->Q (.ref t) H'):Zgz CF CR vs H Q zE
end My
namespace My
theorem ZkE{α:Type}[Fd α]{x:α}(h:x≠0):Fd.inv x≠0:=λz=>by
  have:=Fd.mul_inv x h
  rw[z] at this
  have e:x*(0:α)=0:=by grind
  rw[e] at this
  exact Fd.zne this
end My
namespace My
open PySem L2 PyProof.Rows
theorem ZoB{κ:KX}{R:List (List κ.F)}{k:Nat}{x:κ.F}(h:Stg κ R k x)(x0:x≠0)(hk:κ = .q->k<=4):B1s κ (Fd.inv x)/\AllR (B1s κ) R:=by
  cases κ with
  | r p hp=>exact ⟨trivial,λ_ _ _ _=>trivial⟩
  | q =>
    obtain ⟨D,D',hD,bD,qR,hD',bD',qx⟩:=h rfl
    have nums:dS k<=3700/\aS k<=900000/\aL k<=3700/\1<=aL k/\dL k<=900000:=by
      have hk:=hk rfl
      match k,hk with
      | 0,_=>decide
      | 1,_=>decide
      | 2,_=>decide
      | 3,_=>decide
      | 4,_=>decide
    obtain ⟨n1,n2,n3,n4,n5⟩:=nums
    obtain ⟨L,hL,bL,qI⟩:=QS.inv hD' n4 qx bD' x0
    exact ⟨QS.b1s hL qI (bL.up n3) n5,λf hf y hy=>QS.b1s hD (qR f hf y hy) (bD.up n1) n2⟩
theorem Stg.swap{κ:KX}{R:List (List κ.F)}{k:Nat}{x:κ.F}{a b:Int}(h:Stg κ R k x):Stg κ (doT (.swap a b) R) k x:=λz=>by
  obtain ⟨D,D',hD,bD,qR,r⟩:=h z
  exact ⟨D,D',hD,bD,(qR.set (qR.getD _)).set (qR.getD _),r⟩
end My
namespace My
open PySem L2 PyProof.Rows
theorem ZoC{C C' G X:Hp->Prop}(h:(∀H,C' H->G H)->∀H,C H->X H)(hG:∀H,C' H->G H):∀H,C H->X H:=h hG
end My
namespace My
theorem ZkF{κ:KX}{pw m g:Nat}{B:Int}{R:List (List κ.F)}(wd:Wid m R){i j:Nat}(hi:i<R.length)(hj:j<m)(h:∀f∈R,(∀x∈f.take pw,QS κ B 300 x)/\∀x∈f.drop pw,QS κ 1 g x):if j<pw then QS κ B 300 (ent R i j) else QS κ 1 g (ent R i j):=by
  have l:=wd.get hi
  have e:R.getD i []=R[i]:=ZaD (Q2 hi)
  have hf:=h R[i] (Qe hi)
  rw[<-e] at hf
  have en:ent R i j=(R.getD i [])[j]'⋯:=by
    unfold ent
    rw[Q3 (l:=R.getD i []),Q2 ⋯]; rfl
  by_cases q:j<pw
  · rw[if_pos q,en]
    refine hf.1 _ ?_
    rw[List.mem_take_iff_getElem]
    exact ⟨j,⋯,rfl⟩
  · rw[if_neg q,en]
    refine hf.2 _ ?_
    rw[List.mem_drop_iff_getElem]
    exact ⟨j-pw,⋯,by congr 1; omega⟩
end My
namespace My
open PySem L2 PyProof.Rows
section
variable{P:Program}{w:World}{K:PySem.W.Frag}{mg:Str->Option Value}{base:Heap}{CF CR:Addr}
theorem sc_Fractions_common_bottom:FnScope ["self", "some", "bottom", "one"] ["self", "some"] (Zag ZaT):=‹2›
theorem Zh2(h:HereM K CF "common_bottom" "Fractions.common_bottom" ZaT) (h_divisor:Has P w K mg base "divisor" 1 ["one", "other"] ZaU):HasM P w K mg base CF "common_bottom" 2 ["self", "some"] [] (Zbx K):=by
  refine h.hasM (λf fd F=>F.binds λ_ _ _ _ _ _ us hl=>by obtain ⟨_,_,rfl⟩:=ZdM hl; exact rfl) λf fd F=>F.ok sc_Fractions_common_bottom (λvs H Q E h=>?_) (λcdv A outer s H vs Q E hr h=>?_)
  · obtain ⟨_,_,_,_,_,rfl,_⟩:=h
    rfl
  obtain ⟨sf,r,xs,f,B,rfl,hr1,al,hB,bB,dvB,k⟩:=h
  have nd:=sc_Fractions_common_bottom.nd
  refine ⟨_,(Zab (Zak (i:=2) nd rfl (Or.inl rfl) Zad)
    (Zab (Zbf PassesOwn.never rfl (ZaI (pv 1)) (Zau (i:=3) nd rfl (Or.inl rfl)) (Zae (ZaC (Zaq Zdv (Zal ZaS (pv 2) (Zar Zan (pv 3) Zad (λ_ _=>rfl))) Zad (Zap _)) (Zae (Zak (i:=2) nd rfl (Or.inl rfl) (Zal ZaB (Zal ZbM (pv 2) (Zao h_divisor hr (by rfl) (Zaa (pv 2) (Zaa (Zar Zan (pv 3) Zad (λ_ _=>rfl)) Zac)))) (Zar Zan (pv 3) Zad (λ_ _=>rfl))))) Zat)))
    (Zae (Zaj (pv 2))))),?_⟩
  have la:=al.1
  refine ⟨_,rfl,r,rfl,⟨_,SqL.of hr1⟩,?_⟩
  refine Zcn (xs:=xs) (λi σ H2=>∃(A:Int) (z:Option V),σ=[some (.ref sf),some (.ref r),some (.int A),z]/\H2=H/\ZmG .q (f.take i) A) ⟨1,none,rfl,rfl,∅,λx hx=>by simp at hx,λB _=>Int.one_dvd _⟩ ?_ ?_ ?_
  · rintro i σ H2-⟨A,z,rfl,rfl,-⟩
    exact SqL.of hr1
  · rintro i v σ H2 hv ⟨A,z,rfl,rfl,hA,dv,mn⟩
    obtain ⟨x,hx,a,rfl,ha⟩:=al.get hv
    have hd:=(Za8 x).pos
    have mx:=Q9 hx
    have hAB:A ∣ B:=mn B λy hy=>dvB y (Uo hy)
    have bA:Bits 4000 A:=bB.le (ZaZ hAB ⋯)
    have bd:Bits 4000 (Rat.den x:Int):=bB.le (ZaZ (dvB x mx) ⋯)
    have tk:f.take (i+1)=f.take i++[x]:=by rw[Qm,hx]; rfl
    refine ⟨_,rfl,_,rfl,a,_,1,_,rfl,rfl,SqT.of ha,rfl,_,_,rfl,rfl,(show (Rat.den x:Int)≠0 by omega),rfl,_,rfl,?_⟩
    refine ZcO (λz1=>?_) (λz1=>?_)
    · obtain ⟨p1,d1,d2,lm⟩:=Zl6 hA hd
      have g0:(Int.gcd A (Rat.den x:Int):Int)≠0:=by have:=M3.gcd_ne (a:=A) (b:=(Rat.den x:Int)) ⋯; omega
      have gb:Bits 4000 (Int.gcd A (Rat.den x:Int):Int):=bA.le (ZaZ (Wr A (Rat.den x:Int)) ⋯)
      have fb:=M3.fdiv_le (Wr A (Rat.den x:Int)) g0
      refine ⟨_,rfl,_,rfl,_,rfl,a,_,1,_,rfl,rfl,SqT.of ha,rfl,A,_,rfl,_,_,rfl,rfl,⟨g0,gb⟩,_,rfl,a,_,1,_,rfl,rfl,SqT.of ha,rfl,_,_,rfl,rfl,Bits.mulG ((bA.le fb).up ∅) bd,?_⟩
      refine ⟨_,_,rfl,rfl,p1,λy hy=>?_,λB' hB'=>?_⟩
      · rw[tk] at hy
        rcases Qf.mp hy with q | q
        · exact Int.dvd_trans (dv y q) d1
        · rw[Q6.mp q]; exact d2
      · rw[tk] at hB'
        exact lm B' (mn B' λy hy=>hB' y (Qf.mpr (.inl hy))) (hB' x (Qf.mpr (.inr (Q6.mpr rfl))))
    · refine ⟨A,_,rfl,rfl,hA,λy hy=>?_,λB' hB'=>?_⟩
      · rw[tk] at hy
        rcases Qf.mp hy with q | q
        · exact dv y q
        · rw[Q6.mp q]
          have z2:A.fmod (Rat.den x:Int)=0:=z1
          rw[Qy _ ⋯] at z2
          exact Int.dvd_of_emod_eq_zero z2
      · rw[tk] at hB'
        exact mn B' λy hy=>hB' y (Qf.mpr (.inl hy))
  · rintro σ H2 ⟨A,z,rfl,rfl,hA⟩
    rw[la,W6] at hA
    exact ⟨_,rfl,k A hA⟩
theorem Zc2:FnScope ["self", "some"] ["self", "some"] (Zag Za9):=‹2›
theorem Zjt(h:HereM K CR "common_bottom" "Kind.common_bottom" Za9):HasM P w K mg base CR "common_bottom" 1 ["self", "some"] [] Zem:=by
  refine h.hasM (λf fd F=>F.binds λ_ _ _ _ _ _ us hl=>by obtain ⟨_,_,rfl⟩:=ZdM hl; exact rfl) λf fd F=>F.ok Zc2 (λvs H Q E h=>?_) (λcdv A outer s H vs Q E hr h=>?_)
  · obtain ⟨_,_,rfl,_⟩:=h
    rfl
  obtain ⟨sf,r,rfl,k⟩:=h
  exact ⟨_,(Zae (Zaj Zad)),k⟩
theorem Zh3(kd:Kd K mg CF CR)(hF:HasM P w K mg base CF "common_bottom" 2 ["self", "some"] [] (Zbx K)) (hR:HasM P w K mg base CR "common_bottom" 2 ["self", "some"] [] Zem):ZhZ P w K mg base CF CR:=by
  intro κ H s hk
  cases κ with
  | q =>
    obtain ⟨dx,h⟩:=hk
    exact ⟨CF,dx,[],_,_,_,h,kd.clF,hF,rfl,rfl,λr xs f B Q hr al hB bB dv k=>⟨s,r,xs,f,B,rfl,hr,al,hB,bB,dv,k⟩⟩
  | r p hp =>
    obtain ⟨dx,h⟩:=hk
    exact ⟨CR,dx,fsR p,_,_,_,h,kd.clR,hR,Zds _ ∅,rfl,λr xs f B Q hr al hB bB dv k=>⟨s,r,rfl,k 1 rfl⟩⟩
theorem sc_take_bottoms:FnScope ["kind", "rows", "turns", "place"] ["kind", "rows", "turns"] (Zag Zcc):=‹2›
theorem Zfs(h:Here K mg "take_bottoms" Zcc) (T:Nm mg) (mn:ZdF P w K mg base CF CR) (mb:ZhZ P w K mg base CF CR) (h_take:Has P w K mg base "take" 5 ["kind", "rows", "turns", "turn"] (Zel CF CR)):Has P w K mg base "take_bottoms" 6 ["kind", "rows", "turns"] (ZbW CF CR):=by
  refine h.has (λf fd F=>F.binds λ_ _ _ _ _ _ us hl=>by obtain ⟨_,_,_,rfl⟩:=Zdq hl; exact rfl) λf fd F=>F.ok sc_take_bottoms (λvs H Q E h=>?_) (λcdv A outer s H vs Q E hr h=>?_)
  · obtain ⟨_,_,_,_,_,_,_,_,rfl,_⟩:=h
    rfl
  obtain ⟨κ,sk,r,u,Z,R0,pw,m,rfl,hk,wk,qt,n7,k⟩:=h
  have nd:=sc_take_bottoms.nd
  refine ⟨_,(Zae (Zbf PassesOwn.never rfl (ZaN (by rfl) T.range (Zaa (Zam Zai (by rfl) T.len boot_len (Zaa (pv 1) Zac)) Zac)) (Zau (i:=3) nd rfl (Or.inl rfl)) (Zae (ZaL (Zao h_take hr (by rfl) (Zaa (pv 0) (Zaa (pv 1) (Zaa (pv 2) (Zaa (ZaY (Zaa Zbe (Zaa (pv 3) (Zaa (Zbl (pv 0) ZeC hr (Zaa (Zbz (pv 0) hr (Zaa (Zar Zav (pv 1) (pv 3) (λ_ _=>rfl)) Zac)) Zac)) Zac)))) Zac))))))))),?_⟩
  obtain ⟨B,b,g,hB,bB,bg,qB⟩:=qt.ex
  have wm:=wk.wm
  obtain ⟨as,hR,la⟩:=wk.rl
  obtain ⟨tvs,hU⟩:=wk.ul
  refine ⟨_,rfl,r,_,rfl,.inl (SqL.of hR),_,rfl,?_⟩
  rw[Q1,la]
  refine ⟨⋯,⋯,?_⟩
  rw[Q7]
  refine Zba (lo:=0) (n:=R0.length) (λi σ H2=>∃(z:Option V) (R:List (List κ.F)) (ts:List (Tn κ)),σ=[some (.ref sk),some (.ref r),some (.ref u),z]/\Off [r,u] H H2/\Wk κ Z R0 pw m r u H2 R ts/\ts.length<=i/\∀i'<R0.length,∀j<m,(i'<i->QS κ 1 300 (ent R i' j))/\(i<=i'->if j<pw then QS κ B 300 (ent R i' j) else QS κ 1 g (ent R i' j))) ⟨_,R0,[],rfl,λ_ _ _ q=>q,wk,Q4 _,λi' hi j hj=>⟨λq=>by omega,λ_=>ZkF wk.wid hi hj qB⟩⟩ ?_ ?_
  · rintro i σ H2 hi ⟨z,R,ts,rfl,O,wk2,lt,qs⟩
    have hk2:=hk.off2 hR hU O
    obtain ⟨as2,h1,h2,h3⟩:=wk2.rows
    have lR:=wk2.len
    obtain ⟨a,xs,ea,hx,al⟩:=h2.get (i:=i) (by rw[Q1]; omega)
    have eg:(R.map (List.take pw)).getD i []=(R.map (List.take pw))[i]'(by rw[Q1]; omega):=ZaD (Q2 (by rw[Q1]; omega))
    rw[<-eg] at al
    have qrow:=ZdG (Pr:=QS κ B 300) (ZdW wk2.wd wm) (i:=i) (by rw[Q1]; omega) (λj hj=>by
      have:=(qs i ⋯ j ⋯).2 (Q4 _)
      rw[if_pos hj] at this
      rw[Zdk hj]; exact this)
    have qall:=ZdG (Pr:=B1s κ) wk2.wd (i:=i) ⋯ (λj hj=>by
      have:=(qs i ⋯ j hj).2 (Q4 _)
      by_cases q:j<pw
      · rw[if_pos q] at this; exact QS.b1s hB this (bB.up ⋯) ∅
      · rw[if_neg q] at this; exact QS.b1s ∅ this (Bits.of (Q5 (show 1<2^1 by decide) (Qa ∅ ∅))) ⋯)
    obtain ⟨C,dx,fs,ps,dvs,sp,c1,c2,c3,c4,rfl,c5⟩:=mn κ H2 sk hk2
    obtain ⟨C',dx',fs',ps',dvs',sp',d1,d2,d3,d4,rfl,d5⟩:=mb κ H2 sk hk2
    refine ⟨_,rfl,_,rfl,_,rfl,_,rfl,_,rfl,sk,C,dx,fs,ps,_,sp,rfl,c1,c2,c3.mono ∅,c4,_,rfl,sk,C',dx',fs',ps',_,sp',rfl,d1,d2,d3.mono ∅,d4,_,rfl,_,rfl,r,_,_,_,rfl,rfl,SqL.of h1,(by rw[Qr]; exact Zbq ea),d5 a xs _ B _ hx al hB (bB.up ⋯) (λx hx=>QS.dv hB (qrow x hx)) λA hA=>?_⟩
    obtain ⟨xA,nv,x0,b1,qxA,qA⟩:=ZnE hB ⋯ bB hA qrow
    refine c5 H2 A xA _ _ (Same.refl _) nv λv H3 S3 nrv=>?_
    refine ⟨(by show 3<=sizeLine; decide),λtt nt=>?_⟩
    have S4:=Zah nt (.tup [.str "scale", .int (0+(i:Int)),v])
    have q4:=Zaf (H:=H3) (a:=tt) (o:=.tup [.str "scale", .int (0+(i:Int)),v])
    generalize upd H3 tt (.tup [.str "scale", .int (0+(i:Int)),v])=H4 at *
    have S24:=S3.trans S4
    rw[Qr] at q4
    refine ⟨κ,sk,r,u,Z,R0,pw,m,R,ts,.ref tt,.scale (i:Int) xA,rfl,hk2.same S24,wk2.same S24,⋯,⟨tt,v,rfl,q4,nrv.same S4⟩,⟨⟨⋯,⋯⟩,x0⟩,⟨b1,qall⟩,λH5 ts' O5 wk5 l5=>?_⟩
    refine ⟨_,_,ts',rfl,λb o nb q=>O5 b o nb (S24 _ _ (O b o nb q)),wk5,⋯,λi' hi' j hj=>?_⟩
    rw[Zbm (by rw[Q7]; omega),Q7]
    by_cases e:i'=i
    · rw[if_pos e]
      refine ⟨λ_=>?_,λq=>by omega⟩
      subst e
      by_cases q:j<pw
      · rw[<-Zdk q]; exact qA _ (Zgy (ZdW wk2.wd wm) (by rw[Q1]; omega) q)
      · have:=(qs i' hi' j hj).2 (Q4 _)
        rw[if_neg q] at this
        exact (QS.mul qxA this).mono ⋯
    · rw[if_neg e]
      exact ⟨λq=>(qs i' hi' j hj).1 ⋯,λq=>(qs i' hi' j hj).2 ⋯⟩
  · rintro σ H2 ⟨z,R,ts,rfl,O,wk2,lt,qs⟩
    refine k H2 R ts O wk2 lt λ_=>?_
    refine ⟨1,1,∅,Bits.of ∅,Zkz wk2.wd λi hi j hj=>(qs i (by rw[<-wk2.len]; exact hi) j hj).1 (by rw[<-wk2.len]; exact hi),∅,Bits.of ∅,Zoy⟩
end
end My
namespace My
open PySem L2 PyProof.Rows
section
variable{P:Program}{w:World}{K:PySem.W.Frag}{mg:Str->Option Value}{base:Heap}{CF CR:Addr}
theorem Zqc{us:List Value}(h:us.length=6):∃a b c d e f,us=[a,b,c,d,e,f]:=match us,h with | [a,b,c,d,e,f],_=>⟨a,b,c,d,e,f,rfl⟩
theorem sc_empty_column:FnScope ["kind", "rows", "turns", "lead", "column", "last", "head", "back", "place", "less"] ["kind", "rows", "turns", "lead", "column", "last"] (Zag Zce):=‹2›
theorem Zft(h:Here K mg "empty_column" Zce) (T:Nm mg) (mn:ZdF P w K mg base CF CR) (mm:Zox P w K mg base CF CR) (mb:Zgu P w K mg base CF CR) (h_take:Has P w K mg base "take" 5 ["kind", "rows", "turns", "turn"] (Zel CF CR)):Has P w K mg base "empty_column" 6 ["kind", "rows", "turns", "lead", "column", "last"] (ZbX CF CR):=by
  refine h.has (λf fd F=>F.binds λ_ _ _ _ _ _ us hl=>by obtain ⟨_,_,_,_,_,_,rfl⟩:=Zqc hl; exact rfl) λf fd F=>F.ok sc_empty_column (λvs H Q E h=>?_) (λcdv A outer s H vs Q E hr h=>?_)
  · obtain ⟨_,_,_,_,_,_,_,_,_,_,_,_,_,_,_,_,rfl,_⟩:=h
    rfl
  obtain ⟨κ,sk,r,u,Z,R0,pw,m,R,ts,l,c,lv,x,PQ,PN,rfl,hk,wk,ll,cm,nl,x0,h0,pq,pb,n7,l4,k⟩:=h
  have nd:=sc_empty_column.nd
  refine ⟨_,(Zab (Zak (i:=6) nd rfl (Or.inl rfl) (Zar Zav (Zar Zav (pv 1) (pv 3) (λ_ _=>rfl)) (pv 4) (λ_ _=>rfl)))
    (Zab (Zak (i:=7) nd rfl (Or.inl rfl) (Zbl (pv 0) ZeC hr (Zaa (pv 5) Zac)))
    (Zae (Zbf PassesOwn.never rfl (ZaN (by rfl) T.range (Zaa (Zam Zai (by rfl) T.len boot_len (Zaa (pv 1) Zac)) Zac)) (Zau (i:=8) nd rfl (Or.inl rfl)) (Zae (ZaC (Zaq Zdv (pv 8) (pv 3) (Zap _)) (Zab (Zak (i:=9) nd rfl (Or.inl rfl) (Zbz (pv 0) hr (Zaa (Zbl (pv 0) ZeC hr (Zaa Zad Zac)) (Zaa (Zar Zav (Zar Zav (pv 1) (pv 8) (λ_ _=>rfl)) (pv 4) (λ_ _=>rfl)) Zac))))
        (Zab (ZaL (Zao h_take hr (by rfl) (Zaa (pv 0) (Zaa (pv 1) (Zaa (pv 2) (Zaa (ZaY (Zaa Zbe (Zaa (pv 8) (Zaa (pv 6) Zac)))) Zac))))))
        (Zab (ZaL (Zao h_take hr (by rfl) (Zaa (pv 0) (Zaa (pv 1) (Zaa (pv 2) (Zaa (ZaY (Zaa Zbe (Zaa (pv 8) (Zaa (pv 3) (Zaa (pv 9) Zac))))) Zac))))))
        (Zae (ZaL (Zao h_take hr (by rfl) (Zaa (pv 0) (Zaa (pv 1) (Zaa (pv 2) (Zaa (ZaY (Zaa Zbe (Zaa (pv 8) (Zaa (pv 7) Zac)))) Zac)))))))))) Zat)))))),?_⟩
  have lR:=wk.len
  have wd:=wk.wd
  have cm':c<m:=Q5 cm wk.wm
  have pe:∀i<R0.length,∀j<m,PQ (ent R i j):=λi hi j hj=>Zgw wd pq ⋯ hj
  obtain ⟨as,a,xs,hv,e1,e2,e3,e4,e5,nh⟩:=wk.ent ll cm
  obtain ⟨C,dx,fs,ps,dvs,sp,c1,c2,c3,c4,rfl,c5⟩:=mb κ H sk hk
  refine ⟨_,rfl,_,rfl,r,_,_,_,rfl,rfl,SqL.of e1,Zbq e3,_,rfl,a,_,_,_,rfl,rfl,SqL.of e4,ZbE e5,?_⟩
  refine ⟨_,rfl,sk,C,dx,fs,ps,_,sp,rfl,c1,c2,c3.mono ∅,c4,_,rfl,c5 H lv x _ _ (Same.refl H) nl x0 λbv H1 S1 nb=>?_⟩
  have wk1:=wk.same S1
  have hR1:=S1 _ _ e1
  obtain ⟨tvs,hU1⟩:=wk1.ul
  have hk1:=hk.same S1
  have nh1:=nh.same S1
  refine ⟨_,rfl,r,_,rfl,.inl (SqL.of hR1),_,rfl,?_⟩
  rw[Q1,e2]
  refine ⟨⋯,⋯,?_⟩
  rw[Q7]
  refine Zba (lo:=0) (n:=R0.length) (λp σ H2=>∃(z8 z9:Option V) (Rp:List (List κ.F)) (tp:List (Tn κ)),σ=[some (.ref sk),some (.ref r),some (.ref u),some (.int (l:Int)),some (.int (c:Int)),some lv,some hv,some bv,z8,z9]/\Off [r,u] H1 H2/\Wk κ Z R0 pw m r u H2 Rp tp/\tp.length<=ts.length+3*p/\∀i<R0.length,∀j,ent Rp i j=if i<p then ZkA R l c x i j else ent R i j) ⟨_,_,R,ts,rfl,λ_ _ _ q=>q,wk1,⋯,λi hi j=>by rw[if_neg ⋯]⟩ ?_ ?_
  · rintro p σ H2 hp ⟨z8,z9,Rp,tp,rfl,O,wk2,lt,en⟩
    refine ⟨_,rfl,_,rfl,rfl,_,rfl,?_⟩
    refine ZcO (λz=>?_) (λz=>?_)
    case refine_2 =>
      have ep:p=l:=by omega
      refine ⟨_,_,Rp,tp,rfl,O,wk2,⋯,λi hi j=>?_⟩
      rw[en i hi j]
      by_cases q:i<p
      · rw[if_pos q,if_pos ⋯]
      · by_cases q2:i=p
        · rw[if_neg q,if_pos ⋯,q2,ep]
          unfold ZkA
          rw[if_pos rfl]
        · rw[if_neg q,if_neg ⋯]
    have npl:p≠l:=by omega
    have hk2:=hk1.off2 hR1 hU1 O
    have nh2:=nh1.off2 hR1 hU1 O
    have nb2:=nb.off2 hR1 hU1 O
    obtain ⟨as2,a2,xs2,v2,f1,f2,f3,f4,f5,n2⟩:=wk2.ent hp cm
    rw[en p hp c,if_neg ⋯] at n2
    obtain ⟨Cm,dxm,fsm,psm,dvm,spm,m1,m2,m3,m4,rfl,m5⟩:=mm κ H2 sk hk2
    obtain ⟨Cn,dxn,fsn,psn,dvn,spn,k1,k2,k3,k4,rfl,k5⟩:=mn κ H2 sk hk2
    refine ⟨_,rfl,sk,Cm,dxm,fsm,psm,_,spm,rfl,m1,m2,m3.mono ∅,m4,_,rfl,sk,Cn,dxn,fsn,psn,_,spn,rfl,k1,k2,k3.mono ∅,k4,k5 H2 0 0 _ _ (Same.refl _) Zkx λv0 H3 S3 n0=>?_⟩
    refine ⟨_,rfl,_,rfl,r,_,_,_,rfl,rfl,SqL.of (S3 _ _ f1),(by rw[Qr]; exact Zbq f3),_,rfl,a2,_,_,_,rfl,rfl,SqL.of (S3 _ _ f4),ZbE f5,m5 H3 v0 v2 0 _ _ S3 n0 (n2.same S3) Znx (pb.ent _ (pe p hp c cm')).b1 λlsv H4 S4 nls=>?_⟩
    have S24:=S3.trans S4
    have wk4:=wk2.same S24
    have nh4:=nh2.same S24
    have nb4:=nb2.same S24
    have hk4:=hk2.same S24
    have f14:=S24 _ _ f1
    clear S3 S4 n0 m1 m2 m3 m4 m5 k1 k2 k3 k4 k5 f4 f5 n2
    refine ⟨_,rfl,_,rfl,_,rfl,_,rfl,_,rfl,(by show 3<=sizeLine; decide),λt1 nt1=>?_⟩
    have q5:=Zaf (H:=H4) (a:=t1) (o:=.tup [.str "scale", .int (0+(p:Int)),hv])
    have S5:=Zah nt1 (.tup [.str "scale", .int (0+(p:Int)),hv])
    generalize upd H4 t1 (.tup [.str "scale", .int (0+(p:Int)),hv])=H5 at *
    rw[Qr] at q5
    have wk5:=wk4.same S5
    have lRp:=wk5.len
    refine ⟨κ,sk,r,u,Z,R0,pw,m,Rp,tp,.ref t1,.scale (p:Int) (ent R l c),rfl,hk4.same S5,wk5,⋯,⟨t1,hv,rfl,q5,nh4.same S5⟩,⟨⟨⋯,⋯⟩,h0⟩,⟨pb.ent _ (pe l ll c cm'),?_⟩,λH6 tp6 O6 wk6 l6=>?_⟩
    · rw[Q7]
      refine ZdG wk5.wd ⋯ λj hj=>?_
      rw[en p hp j,if_neg ⋯]
      exact pb.ent _ (pe p hp j hj)
    obtain ⟨tv5,hU5⟩:=wk5.ul
    have hR5:=S5 _ _ f14
    have nls6:=(nls.same S5).off2 hR5 hU5 O6
    have nb6:=(nb4.same S5).off2 hR5 hU5 O6
    have hk6:=(hk4.same S5).off2 hR5 hU5 O6
    have en6:∀i<R0.length,∀j,ent (doT (.scale (p:Int) (ent R l c)) Rp) i j=if i=p then ent R l c*ent R p j else ent Rp i j:=λi hi j=>by
      rw[Zbm (by rw[Q7]; omega),Q7]
      by_cases q:i=p
      · rw[if_pos q,if_pos q,q,en p hp j,if_neg ⋯]
      · rw[if_neg q,if_neg q]
    generalize doT (.scale (p:Int) (ent R l c)) Rp=R6 at *
    refine ⟨_,rfl,_,rfl,_,rfl,_,rfl,_,rfl,_,rfl,(by show 4<=sizeLine; decide),λt2 nt2=>?_⟩
    have q7:=Zaf (H:=H6) (a:=t2) (o:=.tup [.str "add", .int (0+(p:Int)),.int (l:Int),lsv])
    have S7:=Zah nt2 (.tup [.str "add", .int (0+(p:Int)),.int (l:Int),lsv])
    generalize upd H6 t2 (.tup [.str "add", .int (0+(p:Int)),.int (l:Int),lsv])=H7 at *
    rw[Qr] at q7
    have wk7:=wk6.same S7
    have lR6:=wk7.len
    have rl7:∀j,ent R6 l j=ent R l j:=λj=>by
      rw[en6 l ll j,if_neg (Ne.symm npl),en l ll j]
      unfold ZkA
      rw[if_pos rfl]
      split <;> rfl
    refine ⟨κ,sk,r,u,Z,R0,pw,m,R6,tp6,.ref t2,.add (p:Int) (l:Int) (0-ent R p c),rfl,hk6.same S7,wk7,⋯,⟨t2,lsv,rfl,q7,nls6.same S7⟩,⟨⟨⋯,⋯⟩,⟨⋯,⋯⟩,⋯⟩,⟨pb.neg _ (pe p hp c cm'),?_,?_⟩,λH8 tp8 O8 wk8 l8=>?_⟩
    · rw[Q7]
      refine ZdG wk7.wd ⋯ λj hj=>?_
      rw[en6 p hp j,if_pos rfl]
      exact pb.mul _ _ (pe l ll c cm') (pe p hp j hj)
    · rw[Q7]
      refine ZdG (Pr:=λy=>B1s κ y/\B1s κ ((0-ent R p c)*y)) wk7.wd ⋯ λj hj=>?_
      rw[rl7 j]
      exact ⟨pb.ent _ (pe l ll j hj),pb.nml _ _ (pe p hp c cm') (pe l ll j hj)⟩
    obtain ⟨as7,hR7,_⟩:=wk7.rl
    obtain ⟨tv7,hU7⟩:=wk7.ul
    have nb8:=(nb6.same S7).off2 hR7 hU7 O8
    have hk8:=(hk6.same S7).off2 hR7 hU7 O8
    have en8:∀i<R0.length,∀j,ent (doT (.add (p:Int) (l:Int) (0-ent R p c)) R6) i j=if i=p then ent R l c*ent R p j+(0-ent R p c)*ent R l j else ent Rp i j:=λi hi j=>by
      rw[Zej wk7.wd (by rw[Q7]; omega) (by rw[Q7]; omega),Q7,Q7,rl7 j,en6 i hi j]
      by_cases q:i=p
      · rw[if_pos q,if_pos q,if_pos q]
      · rw[if_neg q,if_neg q,if_neg q]
    generalize doT (.add (p:Int) (l:Int) (0-ent R p c)) R6=R8 at *
    refine ⟨_,rfl,_,rfl,_,rfl,_,rfl,_,rfl,(by show 3<=sizeLine; decide),λt3 nt3=>?_⟩
    have q9:=Zaf (H:=H8) (a:=t3) (o:=.tup [.str "scale", .int (0+(p:Int)),bv])
    have S9:=Zah nt3 (.tup [.str "scale", .int (0+(p:Int)),bv])
    generalize upd H8 t3 (.tup [.str "scale", .int (0+(p:Int)),bv])=H9 at *
    rw[Qr] at q9
    have wk9:=wk8.same S9
    have lR8:=wk9.len
    refine ⟨κ,sk,r,u,Z,R0,pw,m,R8,tp8,.ref t3,.scale (p:Int) (Fd.inv x),rfl,hk8.same S9,wk9,⋯,⟨t3,bv,rfl,q9,nb8.same S9⟩,⟨⟨⋯,⋯⟩,ZkE x0⟩,⟨pb.inv,?_⟩,λH10 tp10 O10 wk10 l10=>?_⟩
    · rw[Q7]
      refine ZdG wk9.wd ⋯ λj hj=>?_
      rw[en8 p hp j,if_pos rfl]
      exact pb.sum _ _ _ _ (pe l ll c cm') (pe p hp j hj) (pe p hp c cm') (pe l ll j hj)
    refine ⟨_,_,_,tp10,rfl,λb o nb' q=>O10 b o nb' (S9 _ _ (O8 b o nb' (S7 _ _ (O6 b o nb' (S5 _ _ (S24 _ _ (O b o nb' q))))))),wk10,⋯,λi hi j=>?_⟩
    rw[Zbm (by rw[Q7]; omega),Q7,en8 i hi j]
    by_cases q:i=p
    · rw[if_pos q,if_pos q,if_pos ⋯]
      unfold ZkA
      rw[if_neg ⋯,q]
    · rw[if_neg q,if_neg q,en i hi j]
      by_cases q2:i<p
      · rw[if_pos q2,if_pos ⋯]
      · rw[if_neg q2,if_neg ⋯]
  · rintro σ H2 ⟨z8,z9,Rp,tp,rfl,O,wk2,lt,en⟩
    refine k H2 Rp tp (λb o nb' q=>O b o nb' (S1 _ _ q)) wk2 (λi hi j=>?_) lt
    rw[en i hi j,if_pos hi]
end
end My
namespace My
open PySem L2 PyProof.Rows
section
variable{P:Program}{w:World}{K:PySem.W.Frag}{mg:Str->Option Value}{base:Heap}{CF CR:Addr}
theorem sc_emptied:FnScope ["kind", "table", "rows", "turns", "leads", "last", "column", "lead", "found"] ["kind", "table"] (Zag Zfa):=‹2›
theorem Zju(h:Here K mg "emptied" Zfa) (T:Nm mg) (mn:ZdF P w K mg base CF CR) (h_take_bottoms:Has P w K mg base "take_bottoms" 6 ["kind", "rows", "turns"] (ZbW CF CR)) (h_first_filled:Has P w K mg base "first_filled" 6 ["kind", "rows", "start", "column"] (ZbV CF CR)) (h_take:Has P w K mg base "take" 6 ["kind", "rows", "turns", "turn"] (Zel CF CR)) (h_empty_column:Has P w K mg base "empty_column" 6 ["kind", "rows", "turns", "lead", "column", "last"] (ZbX CF CR)):Has P w K mg base "emptied" 7 ["kind", "table"] (Zen CF CR):=by
  refine h.has (λf fd F=>F.binds λ_ _ _ _ _ _ us hl=>by obtain ⟨_,_,rfl⟩:=ZdM hl; exact rfl) λf fd F=>F.ok sc_emptied (λvs H Q E h=>?_) (λcdv A outer s H vs Q E hr h=>?_)
  · obtain ⟨_,_,_,_,_,_,_,rfl,_⟩:=h
    rfl
  obtain ⟨κ,sk,tb,rs,R0,pw,m,rfl,hk,hT,rx,wd,wm,n1,n7,m7,mM,qt,k⟩:=h
  have nd:=sc_emptied.nd
  refine ⟨_,(Zab (Zak (i:=2) nd rfl (Or.inl rfl) (ZbB Zeu (by rfl) T.list boot_list (Zaa (pv 1) Zac)))
    (Zab (Zak (i:=3) nd rfl (Or.inl rfl) (Zdp Zac))
    (Zab (Zak (i:=4) nd rfl (Or.inl rfl) (Zdp Zac))
    (Zab (Zak (i:=5) nd rfl (Or.inl rfl) (Zbl (pv 0) ZeC hr (Zaa Zad Zac)))
    (Zab (ZaL (Zao h_take_bottoms hr (by rfl) (Zaa (pv 0) (Zaa (pv 2) (Zaa (pv 3) Zac)))))
    (Zab (Zbf PassesOwn.never rfl (ZaN (by rfl) T.range (Zaa (Zam Zai (by rfl) T.len boot_len (Zaa (Zar Zav (pv 1) Zad (λ_ _=>rfl)) Zac)) Zac)) (Zau (i:=6) nd rfl (Or.inl rfl)) (Zab (Zak (i:=7) nd rfl (Or.inl rfl) (Zam Zai (by rfl) T.len boot_len (Zaa (pv 4) Zac)))
      (Zab (Zak (i:=8) nd rfl (Or.inl rfl) (Zao h_first_filled hr (by rfl) (Zaa (pv 0) (Zaa (pv 2) (Zaa (pv 7) (Zaa (pv 6) Zac))))))
      (Zae (ZaC (Zaq Zca (pv 8) (Zam Zai (by rfl) T.len boot_len (Zaa (pv 2) Zac)) (Zap _)) (Zab (ZaC (Zaq Zdv (pv 8) (pv 7) (Zap _)) (Zae (ZaL (Zao h_take hr (by rfl) (Zaa (pv 0) (Zaa (pv 2) (Zaa (pv 3) (Zaa (ZaY (Zaa Zbe (Zaa (pv 7) (Zaa (pv 8) Zac)))) Zac))))))) Zat)
        (Zab (ZaL (Zao h_empty_column hr (by rfl) (Zaa (pv 0) (Zaa (pv 2) (Zaa (pv 3) (Zaa (pv 7) (Zaa (pv 6) (Zaa (pv 5) Zac))))))))
        (Zab (Zak (i:=5) nd rfl (Or.inl rfl) (Zar Zav (Zar Zav (pv 2) (pv 7) (λ_ _=>rfl)) (pv 6) (λ_ _=>rfl)))
        (Zae (ZaL (Zf3 PySem.F.plainAttrs_list PySem.F.slot_list_append PySem.F.type_list_append Zci (pv 4) (Zaa (pv 6) Zac))))))) Zat)))))
    (Zae (Zaj (ZaY (Zaa (pv 2) (Zaa (pv 3) (Zaa (pv 4) (Zaa (pv 5) Zac))))))))))))),?_⟩
  have lrs:=rx.1
  rw[Q1] at lrs
  obtain ⟨a0,g0⟩:∃a0,rs[0]?=some a0:=⟨rs[0]'⋯,Q2 ⋯⟩
  obtain ⟨f0,e0⟩:=Zaw g0 rx.1
  obtain ⟨xs0,hx0,al0⟩:=rx.2 0 a0 f0 g0 e0
  have lx0:xs0.length=pw:=by rw[al0.1]; exact ZdW wd wm f0 (Q9 e0)
  refine ⟨_,rfl,tb,_,rfl,.inl (SqL.of hT),λr nr=>?_⟩
  have Sr:=Zah nr (.lst (rs.map V.ref))
  have qr:=Zaf (H:=H) (a:=r) (o:=.lst (rs.map V.ref))
  have nrr:=rx.notin nr
  generalize upd H r (.lst (rs.map V.ref))=H1 at *
  refine ⟨(by show 0<=sizeLine; decide),λu nu=>?_⟩
  have Su:=Zah nu (.lst [])
  have qu:=Zaf (H:=H1) (a:=u) (o:=.lst [])
  have nur:=(rx.same Sr).notin nu
  have nru:r≠u:=λz=>by rw[<-z,qr] at nu; cases nu
  generalize upd H1 u (.lst [])=H2 at *
  refine ⟨(by show 0<=sizeLine; decide),λL nL=>?_⟩
  have SL:=Zah nL (.lst [])
  have qL:=Zaf (H:=H2) (a:=L) (o:=.lst [])
  have nLr:=((rx.same Sr).same Su).notin nL
  have nL1:L≠r:=λz=>by rw[z,Su _ _ qr] at nL; cases nL
  have nL2:L≠u:=λz=>by rw[z,qu] at nL; cases nL
  generalize upd H2 L (.lst [])=H3 at *
  have S03:=Sr.trans (Su.trans SL)
  have fu:H u=none:=Sr.free nu
  have fL:H L=none:=(Sr.trans Su).free nL
  obtain ⟨C,dx,fs,ps,dvs,sp,c1,c2,c3,c4,rfl,c5⟩:=mn κ H3 sk (hk.same S03)
  refine ⟨_,rfl,sk,C,dx,fs,ps,_,sp,rfl,c1,c2,c3.mono ∅,c4,c5 H3 1 1 _ _ (Same.refl _) Zfq λv0 H4 S4 nv0=>?_⟩
  have S04:=S03.trans S4
  have wk4:Wk κ [r,u,L] R0 pw m r u H4 R0 []:=by
    refine ⟨⟨rs,(Su.trans (SL.trans S4)) _ _ qr,rx.same S04,λz hz=>?_⟩,⟨[],(SL.trans S4) _ _ qu,.nil⟩,rfl,(λt h=>nomatch h),λi t h=>by simp at h,wd,nru,⋯,Qk _,by simp,by simp,λz hz=>?_,wm⟩
    · simp only[Q8,W4,or_false] at hz
      rcases hz with rfl | rfl | rfl
      · exact nrr
      · exact nur
      · exact nLr
    · simp only[Q8,W4,or_false] at hz
      rcases hz with rfl | rfl | rfl
      · exact ⟨_,(Su.trans (SL.trans S4)) _ _ qr⟩
      · exact ⟨_,(SL.trans S4) _ _ qu⟩
      · exact ⟨_,S4 _ _ qL⟩
  have fru:∀z∈[r,u],H z=none:=λz hz=>by
    simp only[Q8,W4,or_false] at hz
    rcases hz with rfl | rfl
    · exact nr
    · exact fu
  refine ⟨_,rfl,_,rfl,_,rfl,κ,sk,r,u,[r,u,L],R0,pw,m,rfl,hk.same S04,wk4,qt,n7,λH5 R5 ts5 O5 wk5 l5 stg5=>?_⟩
  have S05:=Off.same O5 S04 fru
  have nLo:L∉[r,u]:=λz=>by
    simp only[Q8,W4,or_false] at z
    rcases z with z | z
    · exact nL1 z
    · exact nL2 z
  have qL5:=O5 _ _ nLo (S4 _ _ qL)
  obtain ⟨as4,hR4,_⟩:=wk4.rl
  obtain ⟨tv4,hU4⟩:=wk4.ul
  have nv5:=nv0.off2 hR4 hU4 O5
  refine ⟨_,rfl,tb,_,0,_,rfl,rfl,SqL.of (S05 _ _ hT),Zbq (i:=0) g0,a0,_,rfl,.inl (SqL.of (S05 _ _ hx0)),_,rfl,?_⟩
  rw[lx0]
  refine ⟨⋯,⋯,?_⟩
  rw[Q7]
  refine Zba (lo:=0) (n:=pw) (λc σ H6=>∃(z6 z7 z8:Option V) (R:List (List κ.F)) (ts:List (Tn κ)) (ls:List Nat) (v:V) (x:κ.F),σ=[some (.ref sk),some (.ref tb),some (.ref r),some (.ref u),some (.ref L),some v,z6,z7,z8]/\Same H H6/\Wk κ [r,u,L] R0 pw m r u H6 R ts/\H6 L=some (.lst (ls.map λ(i:Nat)=>V.int (i:Int)))/\NR κ H6 v x/\Ech R R0.length c ls x/\Stg κ R ls.length x/\ts.length<=R0.length+22*c) ⟨_,_,_,R5,ts5,[],v0,1,rfl,S05,wk5,qL5,nv5,ZnA,stg5,⋯⟩ ?_ ?_
  · rintro c σ H6 hc ⟨z6,z7,z8,R,ts,ls,v,x,rfl,S6,wk6,qL6,nv6,ech,stg,lt⟩
    refine ⟨_,rfl,L,_,rfl,.inl (SqL.of qL6),?_⟩
    rw[Q1]
    refine ⟨_,rfl,_,rfl,_,rfl,_,rfl,κ,sk,r,u,[r,u,L],R0,pw,m,R,ts,ls.length,c,(by rw[Qr]; rfl),hk.same S6,wk6,hc,ech.le,⋯,λf h1 h2 h3 h4=>?_⟩
    obtain ⟨as6,hR6,la6⟩:=wk6.rl
    refine ⟨_,rfl,_,rfl,r,_,rfl,.inl (SqL.of hR6),_,_,rfl,rfl,_,rfl,?_⟩
    rw[Q1,la6]
    refine Za3 (λq=>?_) (λq=>?_)
    case refine_2 =>
      have ef:f=R0.length:=by have:¬(f:Int)<(R0.length:Int):=q; omega
      exact ⟨_,_,_,R,ts,ls,v,x,rfl,S6,wk6,qL6,nv6,ech.skip λi a b=>h4 i a ⋯,stg,⋯⟩
    have hf:f<R0.length:=by have:(f:Int)<(R0.length:Int):=q; omega
    have hll:ls.length<R0.length:=by omega
    have d6:Same H H6/\Wk κ [r,u,L] R0 pw m r u H6 R ts/\H6 L=some (.lst (ls.map λ(i:Nat)=>V.int (i:Int)))/\NR κ H6 v x:=⟨S6,wk6,qL6,nv6⟩
    clear S6 qL6 nv6 hR6 la6 wk6
    revert H6
    refine' ZoC (C:=λH6=>Same H H6/\Wk κ [r,u,L] R0 pw m r u H6 R ts/\H6 L=some (.lst (ls.map λ(i:Nat)=>V.int (i:Int)))/\NR κ H6 v x) (C':=λH6=>Same H H6/\∃(R1:List (List κ.F)) (ts1:List (Tn κ)),Wk κ [r,u,L] R0 pw m r u H6 R1 ts1/\H6 L=some (.lst (ls.map λ(i:Nat)=>V.int (i:Int)))/\NR κ H6 v x/\Ech R1 R0.length c ls x/\Stg κ R1 ls.length x/\ts1.length<=ts.length+1/\ent R1 ls.length c≠0) (λk1 H6 d6=>?first) ?second
    case first =>
      obtain ⟨S6,wk6,qL6,nv6⟩:=d6
      refine ⟨_,rfl,_,rfl,rfl,_,rfl,?_⟩
      refine ZcO (λz=>?_) (λz=>?_)
      case refine_2 =>
        have ef:f=ls.length:=by omega
        exact k1 H6 ⟨S6,R,ts,wk6,qL6,nv6,ech,stg,⋯,by rw[<-ef]; exact h3 hf⟩
      have nfl:f≠ls.length:=λe=>z (by rw[e])
      refine ⟨_,rfl,_,rfl,_,rfl,_,rfl,_,rfl,(by show 3<=sizeLine; decide),λt1 nt1=>?_⟩
      have q7:=Zaf (H:=H6) (a:=t1) (o:=.tup [.str "swap", .int (ls.length:Int),.int (f:Int)])
      have S7:=Zah nt1 (.tup [.str "swap", .int (ls.length:Int),.int (f:Int)])
      generalize upd H6 t1 (.tup [.str "swap", .int (ls.length:Int),.int (f:Int)])=H7 at *
      have wk7:=wk6.same S7
      refine ⟨κ,sk,r,u,[r,u,L],R0,pw,m,R,ts,.ref t1,.swap (ls.length:Int) (f:Int),rfl,(hk.same S6).same S7,wk7,⋯,⟨t1,rfl,q7⟩,⟨⟨⋯,⋯⟩,⟨⋯,⋯⟩,⋯⟩,trivial,λH8 ts8 O8 wk8 l8=>?_⟩
      obtain ⟨as7,hR7,_⟩:=wk7.rl
      obtain ⟨tv7,hU7⟩:=wk7.ul
      refine k1 H8 ⟨Off.same O8 (S6.trans S7) fru,_,ts8,wk8,O8 _ _ nLo (S7 _ _ qL6),(nv6.same S7).off2 hR7 hU7 O8,ech.swap wk7.len h1 hf,stg.swap,⋯,?_⟩
      rw[ZdV (by rw[Q7,wk7.len]; exact hll) (by rw[Q7,wk7.len]; exact hf),Q7,Q7,if_neg (Ne.symm nfl),if_pos rfl]
      exact h3 hf
    case second =>
      rintro H6 ⟨S6,R1,ts1,wk6,qL6,nv6,ech1,stg1,lt1,h0⟩
      obtain ⟨PQ,PN,pq,pb,fin⟩:=ZnB stg1 ech1.x0 (λz=>by have:=qt.l4 z; omega)
      refine ⟨_,rfl,_,rfl,_,rfl,_,rfl,_,rfl,_,rfl,κ,sk,r,u,[r,u,L],R0,pw,m,R1,ts1,ls.length,c,v,x,PQ,PN,(by rw[Qr]; rfl),hk.same S6,wk6,hll,hc,nv6,ech1.x0,h0,pq,pb,n7,⋯,λH7 R7 ts7 O7 wk7 en l7=>?_⟩
      have S7:=Off.same O7 S6 fru
      have qL7:=O7 _ _ nLo qL6
      have ech7:=ech1.pivot hll h0 en
      have pe:∀i<R0.length,∀j<m,PQ (ent R1 i j):=λi hi j hj=>Zgw wk6.wd pq (by rw[wk6.len]; exact hi) hj
      have stg7:Stg κ R7 (ls.length+1) (ent R1 ls.length c):=fin R7 _ (Zkz wk7.wd λi hi j hj=>by
        have hi:i<R0.length:=by rw[<-wk7.len]; exact hi
        rw[en i hi j]
        unfold ZkA
        split
        · exact pb.keep _ (pe _ hll j hj)
        · exact pb.new _ _ _ _ (pe _ hll c (Q5 hc wm)) (pe i hi j hj) (pe i hi c (Q5 hc wm)) (pe _ hll j hj)) (pe _ hll c (Q5 hc wm))
      obtain ⟨as7,a7,xs7,v7,g1,g2,g3,g4,g5,n7'⟩:=wk7.ent hll hc
      have e7:ent R7 ls.length c=ent R1 ls.length c:=by
        rw[en _ hll c]
        unfold ZkA
        rw[if_pos rfl]
      rw[e7] at n7'
      refine ⟨_,rfl,_,rfl,r,_,_,_,rfl,rfl,SqL.of g1,Zbq g3,_,rfl,a7,_,_,_,rfl,rfl,SqL.of g4,(by rw[Qr]; exact ZbE g5),?_⟩
      have ll7:=ech7.le
      refine ⟨_,rfl,.inl ⟨rfl,_,SqL.of qL7⟩,_,rfl,L,_,_,rfl,rfl,qL7,Q5 (show (ls.map λ(i:Nat)=>V.int (i:Int)).length<1000 by rw[Q1]; omega) ∅,?_⟩
      have OL:Off [L] H7 (upd H7 L (.lst ((ls.map λ(i:Nat)=>V.int (i:Int))++[.int (0+(c:Int))]))):=Za4 (Same.refl H7)
      refine ⟨_,_,_,R7,ts7,ls++[c],v7,_,rfl,Off.same OL S7 (λz hz=>by rw[Q6.mp hz]; exact fL),wk7.offL (by simp) nL1 nL2 qL7 Zaf OL,?_,n7'.off qL7 OL,ech7,by rw[Qd]; exact stg7,⋯⟩
      rw[Zaf,Qj,Qr]
      rfl
  · rintro σ H6 ⟨z6,z7,z8,R,ts,ls,v,x,rfl,S6,wk6,qL6,nv6,ech,stg,lt⟩
    refine ⟨_,rfl,_,rfl,_,rfl,_,rfl,(by show 4<=sizeLine; decide),λt nt=>?_⟩
    have St:=Zah nt (.tup [.ref r,.ref u,.ref L,v])
    exact k _ t r u L [r,u,L] v R ts ls x (S6.trans St) Zaf nr fu fL (wk6.same St) (by simp) nL1 nL2 (St _ _ qL6) (nv6.same St) ech stg ⋯
theorem sc_steps:FnScope ["kind", "table", "found", "rows", "turns", "back", "lead"] ["kind", "table"] (Zag ZhN):=‹2›
theorem Zl7(h:Here K mg "steps" ZhN) (T:Nm mg) (mb:Zgu P w K mg base CF CR) (h_emptied:Has P w K mg base "emptied" 7 ["kind", "table"] (Zen CF CR)) (h_take:Has P w K mg base "take" 7 ["kind", "rows", "turns", "turn"] (Zel CF CR)):Has P w K mg base "steps" 8 ["kind", "table"] (Zgz CF CR):=by
  refine h.has (λf fd F=>F.binds λ_ _ _ _ _ _ us hl=>by obtain ⟨_,_,rfl⟩:=ZdM hl; exact rfl) λf fd F=>F.ok sc_steps (λvs H Q E h=>?_) (λcdv A outer s H vs Q E hr h=>?_)
  · obtain ⟨_,_,_,_,_,_,_,rfl,_⟩:=h
    rfl
  obtain ⟨κ,sk,tb,rs,R0,pw,m,rfl,hk,hT,rx,wd,wm,n1,n7,m7,mM,qt,k⟩:=h
  have nd:=sc_steps.nd
  refine ⟨_,(Zab (Zak (i:=2) nd rfl (Or.inl rfl) (Zao h_emptied hr (by rfl) (Zaa (pv 0) (Zaa (pv 1) Zac))))
    (Zab (Zak (i:=3) nd rfl (Or.inl rfl) (Zar Zan (pv 2) Zad (λ_ _=>rfl)))
    (Zab (Zak (i:=4) nd rfl (Or.inl rfl) (Zar Zan (pv 2) Zad (λ_ _=>rfl)))
    (Zab (Zak (i:=5) nd rfl (Or.inl rfl) (Zbl (pv 0) ZeC hr (Zaa (Zar Zan (pv 2) Zad (λ_ _=>rfl)) Zac)))
    (Zab (Zbf PassesOwn.never rfl (ZaN (by rfl) T.range (Zaa (Zam Zai (by rfl) T.len boot_len (Zaa (Zar Zan (pv 2) Zad (λ_ _=>rfl)) Zac)) Zac)) (Zau (i:=6) nd rfl (Or.inl rfl)) (Zae (ZaL (Zao h_take hr (by rfl) (Zaa (pv 0) (Zaa (pv 3) (Zaa (pv 4) (Zaa (ZaY (Zaa Zbe (Zaa (pv 6) (Zaa (pv 5) Zac)))) Zac))))))))
    (Zae (Zaj (ZaY (Zaa (Za2 ["row"] [] rfl (ZaI (pv 3)) (by exact λ_ _ _ _=>(Zau (i:=0) (show (["row"]:List Str).Nodup by decide +kernel) rfl (Or.inl rfl))) (by exact λ_ _ _ _=>(ZbB (ZbL K rfl) (by rfl) T.list boot_list (Zaa (pv 0) Zac))) trivial) (Zaa (pv 4) (Zaa (Zar Zan (pv 2) Zad (λ_ _=>rfl)) Zac))))))))))),?_⟩
  refine ⟨_,rfl,_,rfl,κ,sk,tb,rs,R0,pw,m,rfl,hk,hT,rx,wd,wm,n1,n7,m7,mM,qt,λH1 t r u L Z v R1 ts ls x S1 ht nr nu nL wk zL nLr nLu hL nv ech stg l180=>?_⟩
  refine ⟨_,rfl,t,_,0,_,rfl,rfl,SqT.of ht,rfl,?_⟩
  refine ⟨_,rfl,t,_,1,_,rfl,rfl,SqT.of ht,rfl,?_⟩
  obtain ⟨C,dx,fs,ps,dvs,sp,c1,c2,c3,c4,rfl,c5⟩:=mb κ H1 sk (hk.same S1)
  refine ⟨_,rfl,sk,C,dx,fs,ps,_,sp,rfl,c1,c2,c3.mono ∅,c4,_,rfl,t,_,3,_,rfl,rfl,SqT.of ht,rfl,c5 H1 v x _ _ (Same.refl _) nv ech.x0 λbv H2 S2 nb=>?_⟩
  have S02:=S1.trans S2
  have wk2:=wk.same S2
  obtain ⟨as2,hR2,_⟩:=wk2.rl
  obtain ⟨tv2,hU2⟩:=wk2.ul
  have hk2:=hk.same S02
  have lR:=wk2.len
  have le:=ech.le
  obtain ⟨bi,bR⟩:=ZoB stg ech.x0 (λz=>by have:=qt.l4 z; omega)
  have fru:∀z∈[r,u],H z=none:=λz hz=>by
    simp only[Q8,W4,or_false] at hz
    rcases hz with rfl | rfl
    · exact nr
    · exact nu
  have nLo:L∉[r,u]:=λz=>by
    simp only[Q8,W4,or_false] at z
    rcases z with z | z
    · exact nLr z
    · exact nLu z
  have tno:t∉[r,u]:=λz=>by
    simp only[Q8,W4,or_false] at z
    rcases z with z | z
    · obtain ⟨as1,q1,_⟩:=wk.rl
      rw[z,q1] at ht; cases ht
    · obtain ⟨tv1,q1⟩:=wk.ul
      rw[z,q1] at ht; cases ht
  refine ⟨_,rfl,t,_,2,_,rfl,rfl,SqT.of (S2 _ _ ht),rfl,L,_,rfl,.inl (SqL.of (S2 _ _ hL)),_,rfl,?_⟩
  rw[Q1]
  refine ⟨⋯,⋯,?_⟩
  rw[Q7]
  refine Zba (lo:=0) (n:=ls.length) (λp σ H3=>∃(z6:Option V) (Rp:List (List κ.F)) (tp:List (Tn κ)),σ=[some (.ref sk),some (.ref tb),some (.ref t),some (.ref r),some (.ref u),some bv,z6]/\Off [r,u] H2 H3/\Wk κ Z R0 pw m r u H3 Rp tp/\tp.length<=ts.length+p/\∀i<R0.length,∀j,ent Rp i j=if i<p then Fd.inv x*ent R1 i j else ent R1 i j) ⟨_,R1,ts,rfl,λ_ _ _ q=>q,wk2,⋯,λi hi j=>by rw[if_neg ⋯]⟩ ?_ ?_
  · rintro p σ H3 hp ⟨z6,Rp,tp,rfl,O,wk3,lt,en⟩
    refine ⟨_,rfl,_,rfl,_,rfl,_,rfl,_,rfl,(by show 3<=sizeLine; decide),λt1 nt1=>?_⟩
    have q5:=Zaf (H:=H3) (a:=t1) (o:=.tup [.str "scale", .int (0+(p:Int)),bv])
    have S5:=Zah nt1 (.tup [.str "scale", .int (0+(p:Int)),bv])
    generalize upd H3 t1 (.tup [.str "scale", .int (0+(p:Int)),bv])=H5 at *
    rw[Qr] at q5
    have wk5:=wk3.same S5
    have lRp:=wk5.len
    refine ⟨κ,sk,r,u,Z,R0,pw,m,Rp,tp,.ref t1,.scale (p:Int) (Fd.inv x),rfl,(hk2.off2 hR2 hU2 O).same S5,wk5,⋯,⟨t1,bv,rfl,q5,(nb.off2 hR2 hU2 O).same S5⟩,⟨⟨⋯,⋯⟩,ZkE ech.x0⟩,⟨bi,?_⟩,λH6 tp6 O6 wk6 l6=>?_⟩
    · rw[Q7]
      refine ZdG wk5.wd ⋯ λj hj=>?_
      rw[en p ⋯ j,if_neg ⋯]
      exact Zgw wk2.wd bR ⋯ hj
    refine ⟨_,_,tp6,rfl,λb o nb' q=>O6 b o nb' (S5 _ _ (O b o nb' q)),wk6,⋯,λi hi j=>?_⟩
    rw[Zbm (by rw[Q7]; omega),Q7,en i hi j]
    by_cases q:i=p
    · rw[if_pos q,if_neg ⋯,if_pos ⋯]
    · rw[if_neg q]
      by_cases q2:i<p
      · rw[if_pos q2,if_pos ⋯]
      · rw[if_neg q2,if_neg ⋯]
  · rintro σ H3 ⟨z6,Rp,tp,rfl,O,wk3,lt,en⟩
    have S03:=Off.same O S02 fru
    have ech3:Ech Rp R0.length pw ls 1:=ech.scale en
    obtain ⟨as3,hR3,rx3,nz3⟩:=wk3.rows
    have ht3:=O _ _ tno (S2 _ _ ht)
    have hL3:=O _ _ nLo (S2 _ _ hL)
    obtain ⟨tv3,hU3,al3⟩:=wk3.turns
    have la3:=rx3.1
    have la3':=la3
    rw[Q1] at la3'
    have lRp:=wk3.len
    refine ⟨_,rfl,r,rfl,⟨_,SqL.of hR3⟩,?_⟩
    refine ZaG (K:=K) (a:=r) (xs:=as3.map V.ref) (λi ys H4=>Same H3 H4/\∃ds:List Addr,ys=ds.map V.ref/\ds.length=i/\RowsX κ H4 ds ((Rp.map (List.take pw)).take i)/\ds.Nodup/\(∀a∈ds,H3 a=none)) (by rw[Q1]; omega) ⟨Same.refl _,[],rfl,rfl,.nil,List.nodup_nil,λa h=>nomatch h⟩ (λi ys H4 _ q=>SqL.of (q.1 _ _ hR3)) ?_ ?_
    · rintro i y ys H4 hy hl ⟨S4,ds,rfl,ld,rd,ndd,nw⟩
      obtain ⟨a,ha,rfl⟩:=Zax hy
      obtain ⟨f,hf⟩:=Zaw ha la3
      obtain ⟨xs,hx,al⟩:=rx3.2 i a f ha hf
      refine ⟨_,rfl,a,_,rfl,.inl (SqL.of (S4 _ _ hx)),λD hD=>?_⟩
      have SD:=Zah hD (.lst xs)
      refine ⟨S4.trans SD,ds++[D],by simp,by simp[ld],?_,ZfX ndd (rd.notin hD),λb hb=>?_⟩
      · rw[Qm,hf]
        exact (rd.same SD).snoc Zaf (al.mono λ_ _ n=>(n.same S4).same SD)
      · rcases Qf.mp hb with q | q
        · exact nw b q
        · rw[Q6.mp q]; exact S4.free hD
    · rintro ys H4 hl ⟨S4,ds,rfl,ld,rd,ndd,nw⟩ D hD
      rw[Q1] at ld
      rw[Q1,la3,W6] at rd
      have SD:=Zah hD (.lst (ds.map V.ref))
      have qD:=Zaf (H:=H4) (a:=D) (o:=.lst (ds.map V.ref))
      have nDd:=rd.notin hD
      generalize upd H4 D (.lst (ds.map V.ref))=H5 at *
      have S35:=S4.trans SD
      refine ⟨_,rfl,_,rfl,t,_,2,_,rfl,rfl,SqT.of (S35 _ _ ht3),rfl,(by show 3<=sizeLine; decide),λt2 nt2=>?_⟩
      have St:=Zah nt2 (.tup [.ref D,.ref u,.ref L])
      have S3e:=S35.trans St
      have hD3:=S4.free hD
      have run:=wk3.run
      refine k _ t2 D u L ds tv3 tp ls (S03.trans S3e) Zaf (St _ _ qD) (by rw[<-run]; exact (rd.same SD).same St) (S3e _ _ hU3) (al3.mono λ_ _ n=>n.same S3e) (S3e _ _ hL3) wk3.ok wk3.pre ⋯ (by rw[<-run]; exact ech3) (λe=>?stg) (S03.free hD3) nu nL (λa ha=>S03.free (nw a ha)) ndd (λa ha=>⟨λz=>nDd (by rw[<-z]; exact ha),λz=>?_,λz=>?_⟩) (λz=>?_) (λz=>?_) (Ne.symm nLu)
      case stg =>
        obtain ⟨D0,D1,p0,p1,p2,_⟩:=stg e
        refine ⟨D0,p0,p1,λi i1 i2 j hj=>?_⟩
        rw[<-run,en i i2 j,if_neg ⋯]
        exact Zgw wk2.wd p2 (by rw[wk2.len]; exact i2) hj
      · have:=nw a ha
        rw[z,hU3] at this; cases this
      · have:=nw a ha
        rw[z,hL3] at this; cases this
      · rw[z,hU3] at hD3; cases hD3
      · rw[z,hL3] at hD3; cases hD3
end
end My
namespace My
open PySem L2 PyProof.Rows
section
variable{κ:KX}
noncomputable def ZcK(f v:Nat->κ.F):Nat->κ.F
  | 0=>0
  | m+1=>ZcK f v m+f m*v m
theorem ZdX(c:κ.F)(f v:Nat->κ.F):∀m,ZcK (λj=>c*f j) v m=c*ZcK f v m
  | 0=>by show (0:κ.F)=c*0; grind
  | m+1=>by
    show ZcK (λj=>c*f j) v m+c*f m*v m=c*(ZcK f v m+f m*v m)
    rw[ZdX c f v m]; grind
theorem ZgA(f g v:Nat->κ.F):∀m,ZcK (λj=>f j+g j) v m=ZcK f v m+ZcK g v m
  | 0=>by show (0:κ.F)=0+0; grind
  | m+1=>by
    show ZcK (λj=>f j+g j) v m+(f m+g m)*v m=ZcK f v m+f m*v m+(ZcK g v m+g m*v m)
    rw[ZgA f g v m]; grind
theorem Zfu{f v:Nat->κ.F}:∀ {m},(∀j<m,f j*v j=0)->ZcK f v m=0
  | 0,_=>rfl
  | m+1,h=>by
    show ZcK f v m+f m*v m=0
    rw[Zfu λj hj=>h j ⋯,h m ⋯]; grind
theorem Zdl{f v:Nat->κ.F}{a:Nat}:∀ {m},a<m->(∀j<m,j≠a->f j*v j=0)->ZcK f v m=f a*v a
  | 0,h,_=>absurd h (Nat.not_lt_zero _)
  | m+1,h,z=>by
    show ZcK f v m+f m*v m=_
    by_cases e:a=m
    · subst e
      rw[Zfu λj hj=>z j ⋯ ⋯]; grind
    · rw[Zdl ⋯ λj hj=>z j ⋯,z m ⋯ ⋯]; grind
theorem ZiK{f v:Nat->κ.F}{a b:Nat}(ne:a≠b):∀ {m},a<m->b<m->(∀j<m,j≠a->j≠b->f j*v j=0)->ZcK f v m=f a*v a+f b*v b
  | 0,h,_,_=>absurd h (Nat.not_lt_zero _)
  | m+1,h,h',z=>by
    show ZcK f v m+f m*v m=_
    by_cases e:a=m
    · subst e
      rw[Zdl (a:=b) ⋯ λj hj jb=>z j ⋯ ⋯ jb]; grind
    · by_cases e':b=m
      · subst e'
        rw[Zdl (a:=a) ⋯ λj hj ja=>z j ⋯ ja ⋯]
      · rw[ZiK ne ⋯ ⋯ λj hj=>z j ⋯,z m ⋯ ⋯ ⋯]; grind
def Ker(R:List (List κ.F))(n m:Nat)(v:Nat->κ.F):Prop:=∀i<n,ZcK (ent R i) v m=0
theorem Zh4{c s:κ.F}(hc:c≠0)(h:c*s=0):s=0:=by
  have e:=Fd.mul_inv c hc
  have:s=Fd.inv c*(c*s):=by grind
  rw[this,h]; grind
theorem ZnF{R:List (List κ.F)}{m:Nat}{t:Tn κ}{v:Nat->κ.F}(wd:Wid m R)(ok:t.ok R.length):Ker (doT t R) R.length m v↔Ker R R.length m v:=by
  cases t with
  | swap a b =>
    obtain ⟨⟨a0,a1⟩,⟨b0,b1⟩,ne⟩:=ok
    have e:=ZdV (R:=R) (a:=a) (b:=b) ⋯ ⋯
    have r:∀i,ent (doT (.swap a b) R) i=if i=b.toNat then ent R a.toNat else if i=a.toNat then ent R b.toNat else ent R i:=λi=>by
      funext j
      rw[e]
      split
      · rfl
      · split <;> rfl
    constructor
    · intro h i hi
      by_cases ia:i=a.toNat
      · have:=h b.toNat ⋯
        rw[r,if_pos rfl] at this
        rw[ia]; exact this
      · by_cases ib:i=b.toNat
        · have:=h a.toNat ⋯
          rw[r,if_neg ⋯,if_pos rfl] at this
          rw[ib]; exact this
        · have:=h i hi
          rw[r,if_neg ib,if_neg ia] at this
          exact this
    · intro h i hi
      rw[r]
      split
      · exact h _ ⋯
      · split
        · exact h _ ⋯
        · exact h _ hi
  | scale a c =>
    obtain ⟨⟨a0,a1⟩,c0⟩:=ok
    have r:∀i,ZcK (ent (doT (.scale a c) R) i) v m=if i=a.toNat then c*ZcK (ent R i) v m else ZcK (ent R i) v m:=λi=>by
      have:ent (doT (.scale a c) R) i=if i=a.toNat then (λj=>c*ent R i j) else ent R i:=by
        funext j
        rw[Zbm ⋯]
        split <;> rfl
      rw[this]
      split
      · exact ZdX _ _ _ _
      · rfl
    constructor
    · intro h i hi
      have:=h i hi
      rw[r] at this
      split at this
      · exact Zh4 c0 this
      · exact this
    · intro h i hi
      rw[r,h i hi]
      split
      · grind
      · rfl
  | add a b c =>
    obtain ⟨⟨a0,a1⟩,⟨b0,b1⟩,ne⟩:=ok
    have r:∀i,ZcK (ent (doT (.add a b c) R) i) v m=if i=a.toNat then ZcK (ent R i) v m+c*ZcK (ent R b.toNat) v m else ZcK (ent R i) v m:=λi=>by
      have:ent (doT (.add a b c) R) i=if i=a.toNat then (λj=>ent R i j+(λj=>c*ent R b.toNat j) j) else ent R i:=by
        funext j
        rw[Zej wd ⋯ ⋯]
        split <;> rfl
      rw[this]
      split
      · rw[ZgA,ZdX]
      · rfl
    constructor
    · intro h
      have hb:ZcK (ent R b.toNat) v m=0:=by
        have:=h b.toNat ⋯
        rw[r,if_neg ⋯] at this
        exact this
      intro i hi
      have:=h i hi
      rw[r] at this
      split at this
      · rw[hb] at this
        grind
      · exact this
    · intro h i hi
      rw[r,h i hi,h b.toNat ⋯]
      split
      · grind
      · rfl
theorem ZiL{m:Nat}{v:Nat->κ.F}{ts:List (Tn κ)}:∀ {R:List (List κ.F)},Wid m R->(∀t∈ts,t.ok R.length)->(Ker (ZaE ts R) R.length m v↔Ker R R.length m v):=by
  induction ts with
  | nil=>exact λ_ _=>Iff.rfl
  | cons t ts ih =>
    intro R wd ok
    have o:=ok t (by simp)
    have l:=Zc0 t R
    have:=ih (R:=doT t R) (ZdE wd o) (λt' h'=>by rw[l]; exact ok t' (by simp[h']))
    rw[l] at this
    exact this.trans (ZnF wd o)
theorem ZkG{R:List (List κ.F)}{n m j:Nat}{ls:List Nat}{x:κ.F}(h:Ech R n m ls x)(nj:∀k<ls.length,ls.getD k 0≠j):∃v:Nat->κ.F,v j=1/\(∀k<ls.length,v (ls.getD k 0)=0-Fd.inv x*ent R k j)/\∀j',j'≠j->(∀k<ls.length,ls.getD k 0≠j')->v j'=0:=by
  classical
  refine ⟨λj'=>if j'=j then 1 else if hk:∃k,k<ls.length/\ls.getD k 0=j' then 0-Fd.inv x*ent R hk.choose j else 0,if_pos rfl,λk hk=>?_,λj' h1 h2=>?_⟩
  · have ex:∃k',k'<ls.length/\ls.getD k' 0=ls.getD k 0:=⟨k,hk,rfl⟩
    show (if ls.getD k 0=j then (1:κ.F) else _)=_
    rw[if_neg (nj k hk),dif_pos ex]
    obtain ⟨c1,c2⟩:=ex.choose_spec
    generalize ex.choose=k' at *
    have:k'=k:=by
      rcases Nat.lt_trichotomy k' k with l | l | l
      · have:=h.inc k' k l hk; omega
      · exact l
      · have:=h.inc k k' l c1; omega
    rw[this]
  · show (if j'=j then (1:κ.F) else _)=0
    rw[if_neg h1,dif_neg (λ⟨k,a,b⟩=>h2 k a b)]
theorem ZkH{R R':List (List κ.F)}{n m j:Nat}{ls:List Nat}{x x':κ.F}{v:Nat->κ.F}(h':Ech R' n m ls x')(hj:j<m)(nj:∀k<ls.length,ls.getD k 0≠j)(v1:v j=1)(v2:∀k<ls.length,v (ls.getD k 0)=0-Fd.inv x*ent R k j)(v3:∀j',j'≠j->(∀k<ls.length,ls.getD k 0≠j')->v j'=0){k:Nat}(hk:k<ls.length):ZcK (ent R' k) v m=ent R' k j+x'*(0-Fd.inv x*ent R k j):=by
  have le:=h'.le
  rw[ZiK (a:=j) (b:=ls.getD k 0) (Ne.symm (nj k hk)) hj (h'.lt k hk),v1,v2 k hk,h'.col k hk k ⋯,if_pos rfl]
  · grind
  · intro j' _ n1 n2
    by_cases e:∀k<ls.length,ls.getD k 0≠j'
    · rw[v3 j' n1 e]; grind
    · obtain ⟨k',e⟩:=Classical.not_forall.mp e
      obtain ⟨hk',e⟩:=Classical.not_forall.mp e
      have e:ls.getD k' 0=j':=Classical.not_not.mp e
      rw[<-e,h'.col k' hk' k ⋯,if_neg (λz=>n2 (by rw[z]; exact e.symm))]; grind
theorem ZkI{R:List (List κ.F)}{n m j:Nat}{ls:List Nat}{x:κ.F}{v:Nat->κ.F}(h:Ech R n m ls x)(hj:j<m)(nj:∀k<ls.length,ls.getD k 0≠j)(v1:v j=1)(v2:∀k<ls.length,v (ls.getD k 0)=0-Fd.inv x*ent R k j)(v3:∀j',j'≠j->(∀k<ls.length,ls.getD k 0≠j')->v j'=0):Ker R n m v:=by
  intro i hi
  by_cases hk:i<ls.length
  · rw[ZkH h hj nj v1 v2 v3 hk]
    have:=Fd.mul_inv x h.x0
    grind
  · exact Zfu λj' hj'=>by rw[h.low i ⋯ hi j' hj']; grind
theorem ZiM{R1 R2:List (List κ.F)}{n m:Nat}{l1 l2:List Nat}{x1 x2:κ.F}(h1:Ech R1 n m l1 x1)(h2:Ech R2 n m l2 x2)(ker:∀v,Ker R2 n m v->Ker R1 n m v):∀k<l1.length,∃k'<l2.length,l2.getD k' 0=l1.getD k 0:=by
  intro k hk
  refine Classical.byContradiction λnx=>?_
  have nj:∀k'<l2.length,l2.getD k' 0≠l1.getD k 0:=λk' hk' e=>nx ⟨k',hk',e⟩
  obtain ⟨v,v1,v2,v3⟩:=ZkG h2 nj
  have kv:=ker v (ZkI h2 (h1.lt k hk) nj v1 v2 v3) k (by have:=h1.le; omega)
  rw[Zdl (a:=l1.getD k 0) (h1.lt k hk),v1,h1.col k hk k (by have:=h1.le; omega),if_pos rfl] at kv
  · exact h1.x0 (by grind)
  · intro j hj ne
    by_cases lt:j<l1.getD k 0
    · rw[h1.pre k hk j lt]; grind
    · have z:v j=0:=by
        by_cases e:∀k<l2.length,l2.getD k 0≠j
        · exact v3 j ne e
        · obtain ⟨k',e⟩:=Classical.not_forall.mp e
          obtain ⟨hk',e⟩:=Classical.not_forall.mp e
          have e:l2.getD k' 0=j:=Classical.not_not.mp e
          rw[<-e,v2 k' hk',h2.pre k' hk' _ ⋯]; grind
      rw[z]; grind
theorem ZkJ:∀ {l1 l2:List Nat},l1.Pairwise (· < ·)->l2.Pairwise (· < ·)->(∀x,x∈l1↔x∈l2)->l1=l2
  | [],[],_,_,_=>rfl
  | [],b::l2,_,_,h=>by have:=(h b).mpr (by simp); simp at this
  | a::l1,[],_,_,h=>by have:=(h a).mp (by simp); simp at this
  | a::l1,b::l2,p1,p2,h=>by
    obtain ⟨q1,r1⟩:=List.pairwise_cons.mp p1
    obtain ⟨q2,r2⟩:=List.pairwise_cons.mp p2
    have e:a=b:=by
      rcases Q8.mp ((h a).mp (by simp)) with e | m1
      · exact e
      · rcases Q8.mp ((h b).mpr (by simp)) with e | m2
        · exact e.symm
        · have:=q2 a m1; have:=q1 b m2; omega
    subst e
    refine congrArg (List.cons a) (ZkJ r1 r2 λx=>?_)
    constructor
    · intro m
      rcases Q8.mp ((h x).mp (by simp[m])) with e | m'
      · have:=q1 x m; omega
      · exact m'
    · intro m
      rcases Q8.mp ((h x).mpr (by simp[m])) with e | m'
      · have:=q2 x m; omega
      · exact m'
theorem Zeo{l:List Nat}{k:Nat}(h:k<l.length):l.getD k 0=l[k]:=by rw[Q3,Q2 h]; rfl
theorem Ech.pw{R:List (List κ.F)}{n m:Nat}{ls:List Nat}{x:κ.F}(h:Ech R n m ls x):ls.Pairwise (· < ·) :=
  List.pairwise_iff_getElem.mpr λi j hi hj l=>by have:=h.inc i j l hj; rw[Zeo hi,Zeo hj] at this; exact this
theorem ZiN{l:List Nat}{x:Nat}:x∈l↔∃k<l.length,l.getD k 0=x:=by
  constructor
  · intro m
    obtain ⟨k,hk,e⟩:=Wf m
    exact ⟨k,hk,by rw[Zeo hk]; exact e⟩
  · rintro ⟨k,hk,e⟩
    rw[Zeo hk] at e
    rw[<-e]; exact Qe hk
theorem Zl8{R1 R2:List (List κ.F)}{n m:Nat}{l1 l2:List Nat}{x1 x2:κ.F}(h1:Ech R1 n m l1 x1)(h2:Ech R2 n m l2 x2)(ker:∀v,Ker R2 n m v↔Ker R1 n m v):l1=l2:=by
  refine ZkJ h1.pw h2.pw λx=>?_
  rw[ZiN,ZiN]
  constructor
  · rintro ⟨k,hk,e⟩
    obtain ⟨k',hk',e'⟩:=ZiM h1 h2 (λv=>(ker v).mp) k hk
    exact ⟨k',hk',e'.trans e⟩
  · rintro ⟨k,hk,e⟩
    obtain ⟨k',hk',e'⟩:=ZiM h2 h1 (λv=>(ker v).mpr) k hk
    exact ⟨k',hk',e'.trans e⟩
theorem ZnG{R1 R2:List (List κ.F)}{n m:Nat}{ls:List Nat}(h1:Ech R1 n m ls 1)(h2:Ech R2 n m ls 1)(ker:∀v,Ker R1 n m v->Ker R2 n m v):∀i<n,∀j<m,ent R1 i j=ent R2 i j:=by
  intro i hi j hj
  by_cases hl:i<ls.length
  · by_cases e:∀k<ls.length,ls.getD k 0≠j
    · obtain ⟨v,v1,v2,v3⟩:=ZkG h1 e
      have kv:=ker v (ZkI h1 hj e v1 v2 v3) i hi
      rw[ZkH h2 hj e v1 v2 v3 hl] at kv
      have i1:(Fd.inv (1:κ.F))=1:=by
        have:=Fd.mul_inv (1:κ.F) h1.x0
        grind
      rw[i1] at kv
      grind
    · obtain ⟨k',e⟩:=Classical.not_forall.mp e
      obtain ⟨hk',e⟩:=Classical.not_forall.mp e
      have e:ls.getD k' 0=j:=Classical.not_not.mp e
      rw[<-e,h1.col k' hk' i hi,h2.col k' hk' i hi]
  · rw[h1.low i ⋯ hi j hj,h2.low i ⋯ hi j hj]
theorem Zl9{R:List (List κ.F)}{m:Nat}{ls ls':List Nat}{ts ts':List (Tn κ)}(wd:Wid m R)(ok:∀t∈ts,t.ok R.length)(ok':∀t∈ts',t.ok R.length)(h1:Ech R R.length m ls 1)(h2:Ech (ZaE ts' (ZaE ts R)) R.length m ls' 1):ls'=ls/\ZaE ts' (ZaE ts R)=R:=by
  have w1:=ZaX wd ok
  have l1:=ZaP ts R
  have ker:∀v,Ker (ZaE ts' (ZaE ts R)) R.length m v↔Ker R R.length m v:=λv=>by
    have:=ZiL (v:=v) (ts:=ts') w1 (λt ht=>by rw[l1]; exact ok' t ht)
    rw[l1] at this
    exact this.trans (ZiL wd ok)
  have e:ls'=ls:=Zl8 h2 h1 λv=>(ker v).symm
  subst e
  have w2:Wid m (ZaE ts' (ZaE ts R)):=ZaX w1 (λt ht=>by rw[l1]; exact ok' t ht)
  have l2:=ZaP ts' (ZaE ts R)
  refine ⟨rfl,ZdH (by rw[l2,l1]) w2 wd λi hi j hj=>?_⟩
  exact ZnG h2 h1 (λv=>(ker v).mp) i (by rw[l2,l1] at hi; exact hi) j hj
end
end My
namespace My
open PySem L2 PyProof.Rows
section
variable{κ:KX}
noncomputable def ZmH:Tn κ->Tn κ
  | .swap i j => .swap i j
  | .scale i c => .scale i (Fd.inv c)
  | .add i j c => .add i j (0-c)
theorem ZkK{α:Type}[Fd α]{x:α}(h:x≠0):Fd.inv x≠0:=λz=>by
  have:=Fd.mul_inv x h
  rw[z] at this
  have e:x*(0:α)=0:=by grind
  rw[e] at this
  exact Fd.zne this
theorem ZkL{n:Nat}{t:Tn κ}(h:t.ok n):(ZmH t).ok n:=by
  cases t with
  | swap i j=>exact h
  | scale i c=>exact ⟨h.1,ZkK h.2⟩
  | add i j c=>exact h
theorem ZkM{α:Type}{R:List α}{i j:Nat}{f g:α}(h:i≠j):(R.set i f).set j g=(R.set j g).set i f:=List.set_comm f g h
theorem ZnH{m:Nat}{t:Tn κ}{R:List (List κ.F)}(wd:Wid m R)(ok:t.ok R.length):doT (ZmH t) (doT t R)=R:=by
  cases t with
  | swap i j =>
    obtain ⟨⟨i0,i1⟩,⟨j0,j1⟩,ne⟩:=ok
    have hi:i.toNat<R.length:=by omega
    have hj:j.toNat<R.length:=by omega
    have nij:i.toNat≠j.toNat:=by omega
    show ((((R.set i.toNat (R.getD j.toNat [])).set j.toNat (R.getD i.toNat [])).set i.toNat (((R.set i.toNat (R.getD j.toNat [])).set j.toNat (R.getD i.toNat [])).getD j.toNat [])).set j.toNat (((R.set i.toNat (R.getD j.toNat [])).set j.toNat (R.getD i.toNat [])).getD i.toNat []))=R
    rw[ZaQ (by rw[W7]; exact hj),Zbw (Ne.symm nij),ZaQ hi]
    rw[ZkM (Ne.symm nij) (R:=R.set i.toNat (R.getD j.toNat [])),List.set_set,List.set_set,ZeM hi,ZeM hj]
  | scale i c =>
    obtain ⟨⟨i0,i1⟩,c0⟩:=ok
    have hi:i.toNat<R.length:=by omega
    show (R.set i.toNat ((R.getD i.toNat []).map (c * ·))).set i.toNat (((R.set i.toNat ((R.getD i.toNat []).map (c * ·))).getD i.toNat []).map (Fd.inv c * ·))=R
    rw[ZaQ hi,List.set_set,List.map_map]
    have e:((λx=>Fd.inv c*x)∘λx=>c*x)=id:=by
      funext x
      have:=Fd.mul_inv c c0
      show Fd.inv c*(c*x)=x
      grind
    rw[e,List.map_id,ZeM hi]
  | add i j c =>
    obtain ⟨⟨i0,i1⟩,⟨j0,j1⟩,ne⟩:=ok
    have hi:i.toNat<R.length:=by omega
    have hj:j.toNat<R.length:=by omega
    have nij:i.toNat≠j.toNat:=by omega
    show (R.set i.toNat (List.zipWith (· + ·) (R.getD i.toNat []) ((R.getD j.toNat []).map (c * ·)))).set i.toNat (List.zipWith (· + ·) ((R.set i.toNat (List.zipWith (· + ·) (R.getD i.toNat []) ((R.getD j.toNat []).map (c * ·)))).getD i.toNat []) (((R.set i.toNat (List.zipWith (· + ·) (R.getD i.toNat []) ((R.getD j.toNat []).map (c * ·)))).getD j.toNat []).map ((0-c) * ·)))=R
    rw[ZaQ hi,Zbw nij,List.set_set]
    have l1:=wd.get hi
    have l2:=wd.get hj
    have e:List.zipWith (· + ·) (List.zipWith (· + ·) (R.getD i.toNat []) ((R.getD j.toNat []).map (c * ·))) ((R.getD j.toNat []).map ((0-c) * ·))=R.getD i.toNat []:=by
      apply List.ext_getElem
      · simp only[List.length_zipWith,Q1]; omega
      · intro k h1 h2
        simp only[List.getElem_zipWith,List.getElem_map]
        grind
    rw[e,ZeM hi]
theorem Zbd(a b:List (Tn κ))(R:List (List κ.F)):ZaE (a++b) R=ZaE b (ZaE a R):=List.foldl_append
theorem Zck{m:Nat}:∀ {ts:List (Tn κ)} {R:List (List κ.F)},Wid m R->(∀t∈ts,t.ok R.length)->ZaE (ts.reverse.map ZmH) (ZaE ts R)=R
  | [],R,_,_=>rfl
  | t::ts,R,wd,ok=>by
    have h1:=ok t (by simp)
    have l:(doT t R).length=R.length:=Zc0 t R
    rw[List.reverse_cons,Qj,Zbd]
    show ZaE [ZmH t] (ZaE (ts.reverse.map ZmH) (ZaE ts (doT t R)))=R
    rw[Zck (ZdE wd h1) (λx hx=>by rw[l]; exact ok x (by simp[hx]))]
    exact ZnH wd h1
end
end My
namespace My
open PySem L2 PyProof.Rows
section
variable{κ:KX}
noncomputable def col(v:List κ.F):List (List κ.F):=v.map λx=>[x]
noncomputable def Zh5(κ:KX)(n i:Nat):List κ.F:=(List.range n).map λj=>if i=j then 1 else 0
noncomputable def ZaA(κ:KX)(n:Nat):List (List κ.F):=(List.range n).map (Zh5 κ n)
theorem ZaH(n:Nat):(ZaA κ n).length=n:=by unfold ZaA; simp
theorem ZaR(n:Nat):Wid n (ZaA κ n):=λf hf=>by
  unfold ZaA at hf
  obtain ⟨i,_,rfl⟩:=Qi.mp hf
  unfold Zh5; simp
theorem ZbY{n i j:Nat}(hi:i<n)(hj:j<n):ent (ZaA κ n) i j=if i=j then 1 else 0:=by
  have e:(ZaA κ n).getD i []=Zh5 κ n i:=ZaD (by unfold ZaA; rw[Qg,Uq hi]; rfl)
  unfold ent
  rw[e]
  unfold Zh5
  rw[Q3,Qg,Uq hj]
  rfl
theorem Zma{n w w':Nat}{t:Tn κ}{X Y U:List (List κ.F)}(hU:U.length=n)(hY:Y.length=n)(wU:Wid w' U)(wY:Wid w Y)(ok:t.ok n){v:Nat->Nat->κ.F}(h:∀i<n,∀j,ent Y i j=ZcK (ent U i) (λk=>v k j) n):∀i<n,∀j,ent (doT t Y) i j=ZcK (ent (doT t U) i) (λk=>v k j) n:=by
  intro i hi j
  cases t with
  | swap a b =>
    obtain ⟨⟨a0,a1⟩,⟨b0,b1⟩,ne⟩:=ok
    have r:ent (doT (.swap a b) U) i=if i=b.toNat then ent U a.toNat else if i=a.toNat then ent U b.toNat else ent U i:=by
      funext j
      rw[ZdV ⋯ ⋯]
      split
      · rfl
      · split <;> rfl
    rw[ZdV ⋯ ⋯,r]
    split
    · exact h _ ⋯ j
    · split
      · exact h _ ⋯ j
      · exact h _ hi j
  | scale a c =>
    obtain ⟨⟨a0,a1⟩,c0⟩:=ok
    have r:ent (doT (.scale a c) U) i=if i=a.toNat then (λj=>c*ent U i j) else ent U i:=by
      funext j
      rw[Zbm ⋯]
      split <;> rfl
    rw[Zbm ⋯,r]
    split
    · rw[ZdX,h i hi j]
    · exact h i hi j
  | add a b c =>
    obtain ⟨⟨a0,a1⟩,⟨b0,b1⟩,ne⟩:=ok
    have r:ent (doT (.add a b c) U) i=if i=a.toNat then (λj=>ent U i j+(λj=>c*ent U b.toNat j) j) else ent U i:=by
      funext j
      rw[Zej wU ⋯ ⋯]
      split <;> rfl
    rw[Zej wY ⋯ ⋯,r]
    split
    · rw[ZgA,ZdX,h i hi j,h b.toNat ⋯ j]
    · exact h i hi j
theorem Zfv{n w:Nat}{X:List (List κ.F)}(hX:X.length=n)(wX:Wid w X){ts:List (Tn κ)}(ok:∀t∈ts,t.ok n):∀i<n,∀j,ent (ZaE ts X) i j=ZcK (ent (ZaE ts (ZaA κ n)) i) (λk=>ent X k j) n:=by
  have key:∀m≤ts.length,∀i<n,∀j,ent (ZaE (ts.take m) X) i j=ZcK (ent (ZaE (ts.take m) (ZaA κ n)) i) (λk=>ent X k j) n:=by
    intro m
    induction m with
    | zero =>
      intro _ i hi j
      rw[W9]
      show ent X i j=ZcK (ent (ZaA κ n) i) (λk=>ent X k j) n
      rw[Zdl (a:=i) hi,ZbY hi hi,if_pos rfl]
      · grind
      · intro k hk ne
        rw[ZbY hi hk,if_neg (Ne.symm ne)]; grind
    | succ m ih =>
      intro hm i hi j
      have e:ts.take (m+1)=ts.take m++[ts[m]]:=by rw[Qm,Q2 ⋯]; rfl
      rw[e,Zcj,Zcj]
      have okm:∀t∈ts.take m,t.ok n:=λt ht=>ok t (Uo ht)
      exact Zma (X:=X) (w:=w) (w':=n) (by rw[ZaP,ZaH]) (by rw[ZaP,hX]) (ZaX (ZaR n) (by rw[ZaH]; exact okm)) (ZaX wX (by rw[hX]; exact okm)) (ok _ (Qe _)) (ih ⋯) i hi j
  have:=key ts.length (Q4 _)
  rw[W6] at this
  exact this
noncomputable def mv(R:List (List κ.F))(x:Nat->κ.F)(m:Nat):List κ.F:=(List.range R.length).map λi=>ZcK (ent R i) x m
end
end My
namespace My
open PySem L2 PyProof.Rows
section
variable{κ:KX}
noncomputable def Zc3(A:List (List κ.F))(v:List κ.F):List (List κ.F):=(List.range A.length).map λi=>A.getD i []++(v.getD i 0::Zh5 κ A.length i)
theorem ZiO(A:List (List κ.F))(v:List κ.F):(Zc3 A v).length=A.length:=by unfold Zc3; simp
theorem Zmb{m:Nat}{A:List (List κ.F)}(v:List κ.F)(wd:Wid m A):Wid (m+1+A.length) (Zc3 A v):=λf hf=>by
  unfold Zc3 at hf
  obtain ⟨i,hi,rfl⟩:=Qi.mp hf
  have hi:i<A.length:=by simpa using hi
  rw[Qd,wd.get hi]
  unfold Zh5; simp; omega
theorem Zhi{m:Nat}{A:List (List κ.F)}(v:List κ.F)(wd:Wid m A):(Zc3 A v).map (List.take m)=A:=by
  unfold Zc3
  rw[List.map_map]
  apply List.ext_getElem (by simp)
  intro i h1 h2
  rw[List.getElem_map,List.getElem_range]
  show List.take m (A.getD i []++_)=_
  have e:A.getD i []=A[i]:=ZaD (Q2 h2)
  rw[e,List.take_append_of_le_length (by rw[wd _ (Qe h2)]; exact Q4 _),Ws (by rw[wd _ (Qe h2)]; exact Q4 _)]
theorem ZfY{m i:Nat}{A:List (List κ.F)}(v:List κ.F)(wd:Wid m A)(hi:i<A.length):List.drop m (A.getD i []++(v.getD i 0::Zh5 κ A.length i))=v.getD i 0::Zh5 κ A.length i:=by
  rw[List.drop_append_of_le_length (by rw[wd.get hi]; exact Q4 _),List.drop_of_length_le (by rw[wd.get hi]; exact Q4 _),List.nil_append]
theorem ZkN{m:Nat}{A:List (List κ.F)}{v:List κ.F}(wd:Wid m A):(Zc3 A v).map (List.drop (m+1))=ZaA κ A.length:=by
  unfold Zc3 ZaA
  rw[List.map_map]
  apply List.ext_getElem (by simp)
  intro i h1 h2
  have hi:i<A.length:=by simpa using h1
  rw[List.getElem_map,List.getElem_range,List.getElem_map,List.getElem_range]
  show List.drop (m+1) (A.getD i []++_)=_
  rw[<-List.drop_drop,ZfY v wd hi]
  rfl
noncomputable def Zqq(e:κ.F)(R:List (List κ.F)):List (List κ.F):=R.map λf=>f.map (e * ·)
end
noncomputable def Zqd{κ:KX}(m:Nat)(ls:List Nat)(goal:List κ.F):Nat->List κ.F
  | 0=>List.replicate m 0
  | k+1=>(Zqd m ls goal k).set (ls.getD k 0) (goal.getD k 0)
inductive Zc4 (CF CR:Addr) (vs:List V) (H:Hp) (Q:VK) (zE:XK):Prop
  | mk (κ:KX) (s:Addr) (n i:Nat) (_:vs=[.ref s,.int (n:Int),.int (i:Int)]) (_:KdX CF CR κ H s) (_:n<=100) (_:∀(H':Hp) (D:Addr) (ys:List V),Same H H'->H D=none->H' D=some (.lst ys)->AllG (NR κ H') ys (Zh5 κ n i)->Q (.ref D) H'):Zc4 CF CR vs H Q zE
inductive ZeO (CF CR:Addr) (vs:List V) (H:Hp) (Q:VK) (zE:XK):Prop
  | mk (κ:KX) (s:Addr) (n:Nat) (_:vs=[.ref s,.int (n:Int)]) (_:KdX CF CR κ H s) (_:n<=100) (_:∀(H':Hp) (D:Addr) (rs:List Addr),Same H H'->H D=none->H' D=some (.lst (rs.map V.ref))->RowsX κ H' rs (ZaA κ n)->Q (.ref D) H'):ZeO CF CR vs H Q zE
structure SolvIn (CF CR:Addr) (κ:KX) (H:Hp) (s tb:Addr) (rs:List Addr) (R:List (List κ.F)) (ts:List (Tn κ)) (m:Nat) (ls:List Nat):Prop where
  kd:KdX CF CR κ H s
  tab:H tb=some (.lst (rs.map V.ref))
  rows:RowsX κ H rs (ZaE ts R)
  wid:Wid m R
  ok:∀t∈ts,t.ok R.length
  ech:Ech R R.length m ls 1
  n1:1<=R.length
  n7:R.length<=7
  m1:1<=m
  m7:m<=7
end My
namespace My
open PySem L2 PyProof.Rows
section
variable{κ:KX}
theorem Zmc{R:List (List κ.F)}{n m:Nat}{ls:List Nat}{x:κ.F}(h:Ech R n m ls x):Ech (R.map (List.take m)) n m ls x :=
  ⟨h.le,h.lt,h.inc,h.x0,λk hk i hi=>by rw[Zdk (h.lt k hk)]; exact h.col k hk i hi,λi a b j hj=>by rw[Zdk hj]; exact h.low i a b j hj,λk hk j hj=>by rw[Zdk (U4 hj (h.lt k hk))]; exact h.pre k hk j hj⟩
variable{A:List (List κ.F)}{b:List κ.F}{e:κ.F}{m:Nat}{ts:List (Tn κ)}
theorem ZoD(wd:Wid m A):(ZaE ts (Zc3 A (b.map (e * ·)))).map (List.take m)=ZaE ts A:=by rw[ZkB,Zhi _ wd]
theorem ZoE(wd:Wid m A):(ZaE ts (Zc3 A (b.map (e * ·)))).map (List.drop (m+1))=ZaE ts (ZaA κ A.length):=by rw[ZkC,ZkN wd]
end
end My
namespace My
open PySem L2 PyProof.Rows
section
variable{P:Program}{w:World}{K:PySem.W.Frag}{mg:Str->Option Value}{base:Heap}{CF CR:Addr}
theorem Zh6:FnScope ["rows", "thing"] ["rows", "thing"] (Zag Zd7):=‹2›
theorem Zh7(h:Here K mg "is_place" Zd7) (T:Nm mg) (h_is_whole:Has P w K mg base "is_whole" 1 ["thing"] Zcy):Has P w K mg base "is_place" 2 ["rows", "thing"] Zgs:=by
  refine h.has (λf fd F=>F.binds λ_ _ _ _ _ _ us hl=>by obtain ⟨_,_,rfl⟩:=ZdM hl; exact rfl) λf fd F=>F.ok Zh6 (λvs H Q E h=>?_) (λcdv A outer s H vs Q E hr h=>?_)
  · obtain ⟨_,_,_,rfl,_⟩:=h
    rfl
  obtain ⟨r,xs,i,rfl,hr',k⟩:=h
  refine ⟨_,(Zae (Zaj (ZbA (Zao h_is_whole hr (by rfl) (Zaa (pv 1) Zac)) (Zb2 (Zlx Zlw Zca Zad (pv 1) (Zam Zai (by rfl) T.len boot_len (Zaa (pv 0) Zac))))))),?_⟩
  refine ⟨_,rfl,i,rfl,_,rfl,ZfG ⟨_,rfl,_,_,rfl,rfl,_,rfl,?_⟩⟩
  refine Za3 (λh0=>?_) (λh0=>?_)
  · rw[decide_eq_true (show 0<=i from h0),Bool.true_and] at k
    exact ⟨_,rfl,r,_,rfl,.inl (SqL.of hr'),_,_,rfl,rfl,k⟩
  · rw[decide_eq_false (show ¬0<=i from h0),Bool.false_and] at k
    exact k
end
section
variable{P:Program}{w:World}{K:PySem.W.Frag}{mg:Str->Option Value}{base:Heap}{CF CR:Addr}
theorem Zjv:FnScope ["kind", "rows", "turn"] ["kind", "rows", "turn"] (Zag Ze8):=‹2›
theorem Zjw(h:Here K mg "is_turn" Ze8) (nt:ZiH P w K mg base CF CR) (h_is_place:Has P w K mg base "is_place" 2 ["rows", "thing"] Zgs):Has P w K mg base "is_turn" 3 ["kind", "rows", "turn"] (Zeh CF CR):=by
  refine h.has (λf fd F=>F.binds λ_ _ _ _ _ _ us hl=>by obtain ⟨_,_,_,rfl⟩:=Zdq hl; exact rfl) λf fd F=>F.ok Zjv (λvs H Q E h=>?_) (λcdv A outer s H vs Q E hr h=>?_)
  · obtain ⟨_,_,_,_,_,_,rfl,_⟩:=h
    rfl
  obtain ⟨κ,sk,r,xs,tv,t,rfl,hk,hr',ht,k⟩:=h
  refine ⟨_,(Zab (ZaC (Zaq Zbh (Zar Zan (pv 2) Zad (λ_ _=>rfl)) Zbe (Zap _)) (Zae (Zaj (ZbA (Zao h_is_place hr (by rfl) (Zaa (pv 1) (Zaa (Zar Zan (pv 2) Zad (λ_ _=>rfl)) Zac))) (Zb2 (ZjF (Zbz (pv 0) hr (Zaa (Zar Zan (pv 2) Zad (λ_ _=>rfl)) Zac))))))) Zat)
    (Zab (ZaC (ZeS (Zaq Zdv (Zar Zan (pv 2) Zad (λ_ _=>rfl)) Zbe (Zap _)) (Zdu (Zaq Zdv (Zar Zan (pv 2) Zad (λ_ _=>rfl)) Zbe (Zap _)))).pt (Zae (Zaj ZcL)) Zat)
    (Zae (Zaj (ZbA (Zao h_is_place hr (by rfl) (Zaa (pv 1) (Zaa (Zar Zan (pv 2) Zad (λ_ _=>rfl)) Zac))) (ZbA (Zao h_is_place hr (by rfl) (Zaa (pv 1) (Zaa (Zar Zan (pv 2) Zad (λ_ _=>rfl)) Zac))) (Zb2 (ZaM Zdv (Zar Zan (pv 2) Zad (λ_ _=>rfl)) (Zar Zan (pv 2) Zad (λ_ _=>rfl)) (Zap _))))))))),?_⟩
  have pl:∀i:Int,(decide (0<=i)&&decide (i<(xs.length:Int)))=true↔(0<=i/\i<xs.length):=λi=>by simp
  cases t with
  | scale i c =>
    obtain ⟨a,u,rfl,ha,nu⟩:=ht
    refine ⟨_,rfl,a,_,0,_,rfl,rfl,SqT.of ha,rfl,rfl,_,rfl,Zbv rfl ?_⟩
    refine ⟨_,rfl,_,rfl,a,_,1,_,rfl,rfl,SqT.of ha,rfl,r,xs,i,rfl,hr',_,rfl,?_⟩
    by_cases hp:0<=i/\i<xs.length
    · rw[(pl i).mpr hp]
      obtain ⟨C,dx,fs,ps,dvs,sp,c1,c2,c3,c4,rfl,c5⟩:=nt κ H sk hk
      refine ZfG ⟨_,rfl,sk,C,dx,fs,ps,_,sp,rfl,c1,c2,c3,c4,_,rfl,a,_,2,_,rfl,rfl,SqT.of ha,rfl,c5 u c _ nu λb hb=>?_⟩
      refine ⟨_,rfl,k _ ?_⟩
      show (!b)=true↔((0<=i/\i<xs.length)/\c≠0)
      constructor
      · intro z
        exact ⟨hp,λe=>by rw[hb.mpr e] at z; cases z⟩
      · rintro ⟨_,z⟩
        cases b with
        | false=>rfl
        | true=>exact absurd (hb.mp rfl) z
    · have e:(decide (0<=i)&&decide (i<(xs.length:Int)))=false:=by
        rw[<-Bool.not_eq_true,pl]; exact hp
      rw[e]
      exact ZeF (k _ ⟨λz=>(nomatch z),λz=>absurd z.1 hp⟩)
  | swap i j =>
    obtain ⟨a,rfl,ha⟩:=ht
    refine ⟨_,rfl,a,_,0,_,rfl,rfl,SqT.of ha,rfl,rfl,_,rfl,Zb6 s12 ?_⟩
    refine ⟨_,rfl,a,_,0,_,rfl,rfl,SqT.of ha,rfl,rfl,_,rfl,ZmF rfl ?_⟩
    refine ⟨_,rfl,_,rfl,a,_,1,_,rfl,rfl,SqT.of ha,rfl,r,xs,i,rfl,hr',_,rfl,?_⟩
    by_cases hp:0<=i/\i<xs.length
    · rw[(pl i).mpr hp]
      refine ZfG ⟨_,rfl,_,rfl,a,_,2,_,rfl,rfl,SqT.of ha,rfl,r,xs,j,rfl,hr',_,rfl,?_⟩
      by_cases hq:0<=j/\j<xs.length
      · rw[(pl j).mpr hq]
        refine ZfG ⟨_,rfl,a,_,1,_,rfl,rfl,SqT.of ha,rfl,_,rfl,a,_,2,_,rfl,rfl,SqT.of ha,rfl,rfl,k _ ?_⟩
        show (!decide (V.int i=V.int j))=true↔((0<=i/\i<xs.length)/\(0<=j/\j<xs.length)/\i≠j)
        simp[hp,hq]
      · have e:(decide (0<=j)&&decide (j<(xs.length:Int)))=false:=by
          rw[<-Bool.not_eq_true,pl]; exact hq
        rw[e]
        exact ZeF (k _ ⟨λz=>(nomatch z),λz=>absurd z.2.1 hq⟩)
    · have e:(decide (0<=i)&&decide (i<(xs.length:Int)))=false:=by
        rw[<-Bool.not_eq_true,pl]; exact hp
      rw[e]
      exact ZeF (k _ ⟨λz=>(nomatch z),λz=>absurd z.1 hp⟩)
  | add i j c =>
    obtain ⟨a,u,rfl,ha,nu⟩:=ht
    refine ⟨_,rfl,a,_,0,_,rfl,rfl,SqT.of ha,rfl,rfl,_,rfl,Zb6 s32 ?_⟩
    refine ⟨_,rfl,a,_,0,_,rfl,rfl,SqT.of ha,rfl,rfl,_,rfl,Znv s31 ?_⟩
    refine ⟨_,rfl,a,_,0,_,rfl,rfl,SqT.of ha,rfl,rfl,_,rfl,ZmF rfl ?_⟩
    refine ⟨_,rfl,_,rfl,a,_,1,_,rfl,rfl,SqT.of ha,rfl,r,xs,i,rfl,hr',_,rfl,?_⟩
    by_cases hp:0<=i/\i<xs.length
    · rw[(pl i).mpr hp]
      refine ZfG ⟨_,rfl,_,rfl,a,_,2,_,rfl,rfl,SqT.of ha,rfl,r,xs,j,rfl,hr',_,rfl,?_⟩
      by_cases hq:0<=j/\j<xs.length
      · rw[(pl j).mpr hq]
        refine ZfG ⟨_,rfl,a,_,1,_,rfl,rfl,SqT.of ha,rfl,_,rfl,a,_,2,_,rfl,rfl,SqT.of ha,rfl,rfl,k _ ?_⟩
        show (!decide (V.int i=V.int j))=true↔((0<=i/\i<xs.length)/\(0<=j/\j<xs.length)/\i≠j)
        simp[hp,hq]
      · have e:(decide (0<=j)&&decide (j<(xs.length:Int)))=false:=by
          rw[<-Bool.not_eq_true,pl]; exact hq
        rw[e]
        exact ZeF (k _ ⟨λz=>(nomatch z),λz=>absurd z.2.1 hq⟩)
    · have e:(decide (0<=i)&&decide (i<(xs.length:Int)))=false:=by
        rw[<-Bool.not_eq_true,pl]; exact hp
      rw[e]
      exact ZeF (k _ ⟨λz=>(nomatch z),λz=>absurd z.1 hp⟩)
end
section
variable{P:Program}{w:World}{K:PySem.W.Frag}{mg:Str->Option Value}{base:Heap}{CF CR cT:Addr}
theorem sc_done:FnScope ["kind", "table", "turns", "rows", "turn"] ["kind", "table", "turns"] (Zag Zkj):=‹2›
theorem ZnI(h:Here K mg "done" Zkj) (T:Nm mg) (c_NoTurn:ExcC K mg "NoTurn" cT) (h_is_turn:Has P w K mg base "is_turn" 4 ["kind", "rows", "turn"] (Zeh CF CR)) (h_make_turn:Has P w K mg base "make_turn" 4 ["kind", "rows", "turn"] (Zb7 CF CR)):HasX P w K mg base "done" 5 ["kind", "table", "turns"] (ZhW CF CR cT):=by
  refine h.hasX (λf fd F=>F.binds λ_ _ _ _ _ _ us hl=>by obtain ⟨_,_,_,rfl⟩:=Zdq hl; exact rfl) λf fd F=>F.okx sc_done (λvs H Q E h=>?_) (λcdv A outer s H vs Q E hr h=>?_)
  · obtain ⟨_,_,_,_,_,_,_,_,_,rfl,_⟩:=h
    rfl
  obtain ⟨κ,sk,tb,tu,rs,R,tvs,ts,m,rfl,hk,hT,rx,lR,wid,lm,hU,al,pre,kQ,kE⟩:=h
  have nd:=sc_done.nd
  refine ⟨_,(Zab (ZbO (i:=3) ["row"] [] nd rfl rfl rfl (ZaI (pv 1)) (by exact λ_ _ _ _=>(Zau (i:=0) (show (["row"]:List Str).Nodup by decide +kernel) rfl (Or.inl rfl))) (by exact λ_ _ _ _=>(ZbB (ZbL K rfl) (by rfl) T.list boot_list (Zaa (pv 0) Zac))) trivial)
    (Zab (Zbf PassesOwn.leaving rfl (ZaI (pv 2)) (Zau (i:=4) nd rfl (Or.inl rfl)) (Zab (ZaC (ZbR (Zbo (Zao h_is_turn hr (by rfl) (Zaa (pv 0) (Zaa (pv 3) (Zaa (pv 4) Zac)))))) (Zae (Zcs c_NoTurn Ze3 rfl (by rfl) (Zaa Zbe Zac))) Zat)
      (Zae (ZaL (Zao h_make_turn hr (by rfl) (Zaa (pv 0) (Zaa (pv 3) (Zaa (pv 4) Zac))))))))
    (Zae (Zaj (pv 3))))),?_⟩
  have lr:=rx.1
  have lt:=al.1
  refine ⟨_,rfl,tb,rfl,⟨_,SqL.of hT⟩,?_⟩
  refine ZaG (K:=K) (a:=tb) (xs:=rs.map V.ref) (λi ys H2=>∃as:List Addr,ys=as.map V.ref/\Same H H2/\RowsX κ H2 as (R.take i)/\as.Nodup/\∀a∈as,H a=none) (by rw[Q1]; omega) ⟨[],rfl,Same.refl H,by rw[W9]; exact .nil,List.nodup_nil,λa h=>nomatch h⟩ (λi ys H2 _ ⟨as,_,S,_⟩=>SqL.of (S _ _ hT)) ?_ ?_
  · rintro i x ys H2 hx hl ⟨as,rfl,S,ra,nda,fra⟩
    obtain ⟨a,ha,rfl⟩:=Zax hx
    obtain ⟨f,hf⟩:=Zaw ha lr
    obtain ⟨xs,hxs,fl⟩:=rx.2 i a f ha hf
    refine ⟨_,rfl,a,xs,rfl,.inl (SqL.of (S _ _ hxs)),λl nl=>?_⟩
    have Sl:=Zah nl (.lst xs)
    refine ⟨as++[l],by rw[Qj]; rfl,S.trans Sl,?_,ZfX nda (ra.notin nl),λb hb=>?_⟩
    · rw[Qm,hf]
      exact (ra.same Sl).snoc Zaf (fl.mono λ_ _ n=>n.same (S.trans Sl))
    · rcases Qf.mp hb with hb | hb
      · exact fra b hb
      · rw[Q6.mp hb]; exact S.free nl
  rintro ys H2 hl ⟨as0,rfl,S0,ra0,nda0,fra0⟩ D hD
  rw[Q1,lr,W6] at ra0
  have SD:=Zah hD (.lst (as0.map V.ref))
  have nD0:H D=none:=S0.free hD
  have qD:=Zaf (H:=H2) (a:=D) (o:=.lst (as0.map V.ref))
  have nDa:=ra0.notin hD
  generalize upd H2 D (.lst (as0.map V.ref))=H3 at *
  refine ⟨_,rfl,tu,rfl,⟨_,SqL.of ((S0.trans SD) _ _ hU)⟩,?_⟩
  refine Zcn (xs:=tvs) (λi σ H4=>∃(as:List Addr) (z:Option V),σ=[some (.ref sk),some (.ref tb),some (.ref tu),some (.ref D),z]/\Same H H4/\H4 D=some (.lst (as.map V.ref))/\RowsX κ H4 as (ZaE (ts.take i) R)/\D∉as/\as.Nodup/\(∀a∈as,H a=none)/\(∀t∈ts.take i,t.ok R.length)/\Wid m (ZaE (ts.take i) R)) ⟨as0,none,rfl,S0.trans SD,qD,by rw[W9]; exact ra0.same SD,nDa,nda0,fra0,(λt h=>by rw[W9] at h; cases h),(by rw[W9]; exact wid)⟩ ?_ ?_ ?_
  · rintro i σ H4-⟨as,z,rfl,S,-⟩
    exact SqL.of (S _ _ hU)
  · rintro i x σ H4 hx ⟨as,z,rfl,S,hD4,ra,nDas,nda,fra,oks,wd⟩
    obtain ⟨t,ht,tr⟩:=al.get hx
    have ll:(as.map V.ref).length=R.length:=by rw[Q1,ra.1,ZaP]
    refine ⟨_,rfl,_,rfl,_,rfl,κ,sk,D,_,x,t,rfl,hk.same S,hD4,tr.same S,λb hb=>?_⟩
    rw[ll] at hb
    refine ⟨_,rfl,?_⟩
    cases b with
    | false =>
      refine ZfG ⟨(by show 1<=1000; decide),kE ⟨t,Q9 ht,λz=>by have:=hb.mpr z; cases this⟩ _ S⟩
    | true =>
      have okt:=hb.mp rfl
      have oks':∀t'∈ts.take (i+1),t'.ok R.length:=λt' h'=>by
        rw[Qm,ht] at h'
        rcases Qf.mp h' with h' | h'
        · exact oks t' h'
        · rw[Q6.mp h']; exact okt
      have lrun:(ZaE (ts.take i) R).length=R.length:=ZaP _ _
      refine ZeF ⟨_,rfl,_,rfl,_,rfl,κ,sk,D,as,_,x,t,rfl,hk.same S,hD4,ra,nDas,λf hf=>by rw[wd f hf]; exact lm,tr.same S,by rw[lrun]; exact okt,pre i t ht oks',λH5 as' O hD5 ra' nD' nda' sub=>?_⟩
      have S5:Same H H5:=Off.same O S (λr hr=>by rw[Q6.mp hr]; exact nD0)
      refine ⟨as',_,rfl,S5,hD5,?_,nD',nda' nda,λa ha=>?_,oks',?_⟩
      · rw[Qm,ht]
        show RowsX κ H5 as' (ZaE (ts.take i++[t]) R)
        rw[Zcj]; exact ra'
      · rcases sub a ha with h | h
        · exact fra a h
        · exact S.free h
      · rw[Qm,ht]
        show Wid m (ZaE (ts.take i++[t]) R)
        rw[Zcj]
        exact ZdE wd (by rw[lrun]; exact okt)
  · rintro σ H4 ⟨as,z,rfl,S,hD4,ra,nDas,nda,fra,oks,wd⟩
    rw[lt,W6] at oks ra
    exact ⟨_,rfl,kQ oks H4 D as S nD0 hD4 ra nda nDas fra⟩
end
section
variable{P:Program}{w:World}{K:PySem.W.Frag}{mg:Str->Option Value}{base:Heap}{CF CR cT cF:Addr}
theorem Zh8:FnScope ["kind", "size", "place"] ["kind", "size", "place"] (Zag Zd3):=‹2›
theorem Zhj(h:Here K mg "unit_row" Zd3) (T:Nm mg) (mn:ZdF P w K mg base CF CR):Has P w K mg base "unit_row" 4 ["kind", "size", "place"] (Zc4 CF CR):=by
  refine h.has (λf fd F=>F.binds λ_ _ _ _ _ _ us hl=>by obtain ⟨_,_,_,rfl⟩:=Zdq hl; exact rfl) λf fd F=>F.ok Zh8 (λvs H Q E h=>?_) (λcdv A outer s H vs Q E hr h=>?_)
  · obtain ⟨_,_,_,_,rfl,_⟩:=h
    rfl
  obtain ⟨κ,sk,n,i,rfl,hk,hn,k⟩:=h
  refine ⟨_,(Zae (Zaj (Za2 ["column"] [(0, "kind"),(2, "place")] rfl (ZaN (by rfl) T.range (Zaa (pv 1) Zac)) (by exact λ_ _ _ _=>(Zau (i:=0) (show (["column", "kind", "place"]:List Str).Nodup by decide +kernel) rfl (Or.inl rfl))) (by exact λ_ _ _ _=>(Zka ⟨rfl,rfl,rfl,rfl,rfl⟩ (pv 1) ZeC hr (Zaa (Zlu (Zaq Zbh (pv 0) (pv 2) (Zap _)) Zad Zad) Zac))) ⟨⟨rfl,rfl,Or.inl rfl⟩,⟨⟨rfl,rfl,Or.inl rfl⟩,trivial⟩⟩))),?_⟩
  refine ⟨_,rfl,(n:Int),rfl,⋯,⋯,?_⟩
  rw[Q7]
  refine ZbP (lo:=0) (n:=n) (λq ys H4=>Same H H4/\AllG (NR κ H4) ys ((List.range q).map λj=>if i=j then (1:κ.F) else 0)) ⋯ ⟨Same.refl _,.nil⟩ ?_ ?_
  · rintro q ys H4 _ _ ⟨S4,e4⟩
    obtain ⟨Cn,dxn,fsn,psn,dvn,spn,k1,k2,k3,k4,rfl,k5⟩:=mn κ H4 sk (hk.same S4)
    have key:∀(y:κ.F),y=(if i=q then (1:κ.F) else 0)->∀v' H5,Same H4 H5->NR κ H5 v' y->Same H H5/\AllG (NR κ H5) (ys++[v']) ((List.range (q+1)).map λj=>if i=j then (1:κ.F) else 0):=by
      rintro y rfl v' H5 S5 nv'
      refine ⟨S4.trans S5,?_⟩
      rw[Ur,Qj]
      exact (e4.mono λ_ _ n=>n.same S5).append (.one nv')
    refine ⟨_,rfl,sk,Cn,dxn,fsn,psn,_,spn,rfl,k1,k2,k3.mono ∅,k4,_,rfl,_,rfl,rfl,_,rfl,?_⟩
    refine ZbC (λz=>?_) (λz=>?_)
    · have z:0+(q:Int)=(i:Int):=z
      exact k5 H4 1 1 _ _ (Same.refl _) Zfq (λv' H5 S5 nv'=>key 1 (by rw[if_pos ⋯]) v' H5 S5 nv')
    · have z:¬(0+(q:Int)=(i:Int)):=z
      exact k5 H4 0 0 _ _ (Same.refl _) Zkx (λv' H5 S5 nv'=>key 0 (by rw[if_neg ⋯]) v' H5 S5 nv')
  · rintro ys H4 _ ⟨S4,e4⟩ D nD
    have SD:=Zah nD (.lst ys)
    exact k _ D ys (S4.trans SD) (S4.free nD) Zaf (e4.mono λ_ _ n=>n.same SD)
theorem ZnJ:FnScope ["kind", "size"] ["kind", "size"] (Zag Zki):=‹2›
theorem Zmd(h:Here K mg "unit" Zki) (T:Nm mg) (h_unit_row:Has P w K mg base "unit_row" 4 ["kind", "size", "place"] (Zc4 CF CR)):Has P w K mg base "unit" 5 ["kind", "size"] (ZeO CF CR):=by
  refine h.has (λf fd F=>F.binds λ_ _ _ _ _ _ us hl=>by obtain ⟨_,_,rfl⟩:=ZdM hl; exact rfl) λf fd F=>F.ok ZnJ (λvs H Q E h=>?_) (λcdv A outer s H vs Q E hr h=>?_)
  · obtain ⟨_,_,_,rfl,_⟩:=h
    rfl
  obtain ⟨κ,sk,n,rfl,hk,hn,k⟩:=h
  refine ⟨_,(Zae (Zaj (Za2 ["place"] [(0, "kind"),(1, "size")] rfl (ZaN (by rfl) T.range (Zaa (pv 1) Zac)) (by exact λ_ _ _ _=>(Zau (i:=0) (show (["place", "kind", "size"]:List Str).Nodup by decide +kernel) rfl (Or.inl rfl))) (by exact λ_ _ _ _=>(Zao h_unit_row hr (by rfl) (Zaa (pv 1) (Zaa (pv 2) (Zaa (pv 0) Zac))))) ⟨⟨rfl,rfl,Or.inl rfl⟩,⟨⟨rfl,rfl,Or.inl rfl⟩,trivial⟩⟩))),?_⟩
  refine ⟨_,rfl,(n:Int),rfl,⋯,⋯,?_⟩
  rw[Q7]
  refine ZbP (lo:=0) (n:=n) (λq ys H4=>Same H H4/\∃rs:List Addr,ys=rs.map V.ref/\RowsX κ H4 rs ((List.range q).map (Zh5 κ n))) ⋯ ⟨Same.refl _,[],rfl,.nil⟩ ?_ ?_
  · rintro q ys H4 _ _ ⟨S4,rs,rfl,rx⟩
    refine ⟨_,rfl,_,rfl,_,rfl,κ,sk,n,q,(by rw[Qr]; rfl),hk.same S4,hn,λH5 D zs S5 nD hD e5=>⟨S4.trans S5,rs++[D],by simp,?_⟩⟩
    rw[Ur,Qj]
    exact (rx.same S5).snoc hD e5
  · rintro ys H4 _ ⟨S4,rs,rfl,rx⟩ D nD
    have SD:=Zah nD (.lst (rs.map V.ref))
    exact k _ D rs (S4.trans SD) (S4.free nD) Zaf (rx.same SD)
end
end My
namespace My
open PySem L2 PyProof.Rows
inductive ZbQ (vs:List V) (H:Hp) (Q:VK) (zE:XK):Prop
  | mk (κ:KX) (t:Int) (x:κ.F) (_:vs=[.int κ.P,.int t]) (_:NumV κ t x) (_:∀H' v,Same H H'->NR κ H' v x->Q v H'):ZbQ vs H Q zE
theorem ZkO{κ:KX}{t:Int}(h:t.natAbs<=10^140):∃x:κ.F,NumV κ t x:=by
  cases κ with
  | q=>exact ⟨(t:Rat),rfl,rfl⟩
  | r p hp =>
    have h2:=hp.two
    have e0:=Wd t (show (p:Int)≠0 by omega)
    have e1:=Wt t (show 0<(p:Int) by omega)
    exact ⟨(⟨(t%p).toNat,⋯⟩:Fin p),h,by show (((t%p).toNat:Nat):Int)=_; omega⟩
theorem ZnK{b:Bool}{A B:Prop}(h1:b=true->A)(h0:b=false->B):if b=true then A else B:=by
  cases b with
  | true=>exact h1 rfl
  | false=>exact h0 rfl
end My
namespace My
open PySem L2 PyProof.Rows
structure LeadsOk (n m:Nat) (ls:List Nat):Prop where
  len:ls.length<=n
  pw:ls.Pairwise (· < ·)
  lt:∀x∈ls,x<m
theorem LeadsOk.inc{n m:Nat}{ls:List Nat}(h:LeadsOk n m ls){k k':Nat}(hk:k<k')(hk':k'<ls.length):ls.getD k 0<ls.getD k' 0:=by
  rw[Zeo ⋯,Zeo hk']
  exact List.pairwise_iff_getElem.mp h.pw k k' ⋯ hk' hk
section
variable{κ:KX}
def QM(κ:KX)(D:Int)(M:Nat)(x:κ.F):Prop:=match κ with
  | .q=>∃X:Int,x=Rat.divInt X D/\X.natAbs<=M
  | .r _ _=>True
theorem QM.qs{D:Int}{M a:Nat}{x:κ.F}(h:QM κ D M x)(hM:M<2^a):QS κ D a x:=by
  cases κ with
  | r p hp=>exact trivial
  | q=>obtain ⟨X,e,l⟩:=h; exact ⟨X,e,Bits.of (Qc l hM)⟩
def SzM(κ:KX)(N p:Nat)(R:List (List κ.F)):Prop:=∃D:Int,0<D/\D<=60*3^p/\AllR (QM κ D (N*3^p)) R
theorem Zpm{p:Nat}(h:p<=64):3^p<=3^64:=Qa ∅ h
theorem SzM.bits{N p:Nat}{R:List (List κ.F)}(h:SzM κ N p R)(hp:p<=64)(hN:N<=10^50):∃D:Int,0<D/\Bits 120 D/\AllR (QM κ D (N*3^p)) R/\N*3^p<2^290:=by
  obtain ⟨D,hD,l,al⟩:=h
  have e:(60*3^p:Int)=((60*3^p:Nat):Int):=by rw[Wl,Int.natCast_pow]; rfl
  rw[e] at l
  have:=Zpm hp
  refine ⟨D,hD,Bits.of (Qc (show D.natAbs<=60*3^64 by omega) ∅),al,?_⟩
  exact Qc (Qz hN this) ∅
structure RowP (Pr:κ.F->Prop) (ls:List Nat) (m i:Nat) (f:List κ.F):Prop where
  len:f.length=m
  out:ls.length<=i->∀j<m,f.getD j 0=0
  one:i<ls.length->f.getD (ls.getD i 0) 0=1
  pre:i<ls.length->∀j<ls.getD i 0,f.getD j 0=0
  nil:i<ls.length->∀k<ls.length,k≠i->f.getD (ls.getD k 0) 0=0
  sz:∀x∈f,Pr x
end
end My
namespace My
open PySem L2 PyProof.Rows
end My
namespace My
open PySem L2 PyProof.Rows
noncomputable def Zqr{κ:KX}(f g:List κ.F):κ.F:=ZcK (λi=>f.getD i 0) (λi=>g.getD i 0) f.length
end My
namespace L2
open PySem PySem.Spec PyProof.Rows
section
variable{X:Cx}
end
end L2
namespace My
open PySem L2 PyProof.Rows
section
variable{κ:KX}
theorem ZoF{n:Nat}(h:1<=n):Bits n 1:=Bits.of (by show 1<_; exact Q5 (show 1<2^1 by decide) (Qa ∅ h))
end
end My
namespace My
open PySem L2 PyProof.Rows
section
variable{κ:KX}
theorem ZoG(x:κ.F):1*x=x:=by grind
theorem ZoH(x:κ.F):0*x=0:=by grind
theorem Zme{R:List (List κ.F)}{n:Nat}{ls:List Nat}(hR:R.length=n)(wd:Wid n R)(h:Ech R n n ls 1)(full:ls.length=n):R=ZaA κ n:=by
  have ge:∀k,k<n->k<=ls.getD k 0:=by
    intro k
    induction k with
    | zero=>intro _; omega
    | succ k ih=>intro hk; have:=h.inc k (k+1) ⋯ ⋯; have:=ih ⋯; omega
  have le:∀d k,k+d+1=n->ls.getD k 0<=k:=by
    intro d
    induction d with
    | zero=>intro k hk; have:=h.lt k ⋯; omega
    | succ d ih=>intro k hk; have:=h.inc k (k+1) ⋯ ⋯; have:=ih (k+1) ⋯; omega
  have eq:∀k,k<n->ls.getD k 0=k:=λk hk=>by have:=ge k hk; have:=le (n-k-1) k ⋯; omega
  refine ZdH (m:=n) (by rw[hR,ZaH]) wd (ZaR n) λi hi j hj=>?_
  have:=h.col j ⋯ i ⋯
  rw[eq j hj] at this
  rw[this,ZbY ⋯ hj]
theorem Zmf{n:Nat}{v:Nat->κ.F}{i:Nat}(hi:i<n):ZcK (ent (ZaA κ n) i) v n=v i:=by
  rw[Zdl hi (λj hj ne=>by rw[ZbY hi hj,if_neg (Ne.symm ne)]; exact ZoH _),ZbY hi hi,if_pos rfl]
  exact ZoG _
theorem ZoI{n w:Nat}{ts:List (Tn κ)}(ok:∀t∈ts,t.ok n)(h:ZaE ts (ZaA κ n)=ZaA κ n){X:List (List κ.F)}(hX:X.length=n)(wX:Wid w X):ZaE ts X=X:=by
  refine ZdH (m:=w) (ZaP _ _) (ZaX wX (by rw[hX]; exact ok)) wX λi hi j hj=>?_
  rw[ZaP,hX] at hi
  rw[Zfv hX wX ok i hi j,h,Zmf hi]
theorem Zmg{n:Nat}{ts0 ts:List (Tn κ)}(ok0:∀t∈ts0,t.ok n)(ok:∀t∈ts,t.ok n)(h:ZaE ts (ZaE ts0 (ZaA κ n))=ZaA κ n) :
    ZaE ts0 (ZaE ts (ZaA κ n))=ZaA κ n/\ZaE ts (ZaA κ n)=ZaE (ts0.reverse.map ZmH) (ZaA κ n):=by
  have lu:=ZaH (κ:=κ) n
  have wu:=ZaR (κ:=κ) n
  have okb:∀t∈ts0++ts,t.ok n:=λt ht=>by
    rcases Qf.mp ht with q | q
    · exact ok0 t q
    · exact ok t q
  have lT:(ZaE ts (ZaA κ n)).length=n:=by rw[ZaP,lu]
  have wT:Wid n (ZaE ts (ZaA κ n)):=ZaX wu (by rw[lu]; exact ok)
  have e1:=ZoI okb (by rw[Zbd]; exact h) lT wT
  rw[Zbd] at e1
  have e2:=Zck (m:=n) (ts:=ts) (R:=ZaE ts0 (ZaE ts (ZaA κ n))) (ZaX wT (by rw[lT]; exact ok0)) (by rw[ZaP,lT]; exact ok)
  rw[e1] at e2
  have e3:=Zck (m:=n) (ts:=ts) (R:=ZaA κ n) wu (by rw[lu]; exact ok)
  have e4:ZaE ts0 (ZaE ts (ZaA κ n))=ZaA κ n:=e2.symm.trans e3
  refine ⟨e4,?_⟩
  have e5:=Zck (m:=n) (ts:=ts0) (R:=ZaE ts (ZaA κ n)) wT (by rw[lT]; exact ok0)
  rw[e4] at e5
  exact e5.symm
noncomputable def ZpG(A B:List (List κ.F))(n i j:Nat):κ.F:=ZcK (ent A i) (λk=>ent B k j) n
theorem ZkP{n:Nat}{ts0 ts:List (Tn κ)}(ok0:∀t∈ts0,t.ok n)(ok:∀t∈ts,t.ok n)(h:ZaE ts (ZaE ts0 (ZaA κ n))=ZaA κ n){i j:Nat}(hi:i<n)(hj:j<n) :
    ZpG (ZaE ts (ZaA κ n)) (ZaE ts0 (ZaA κ n)) n i j=(if i=j then 1 else 0)/\ZpG (ZaE ts0 (ZaA κ n)) (ZaE ts (ZaA κ n)) n i j=(if i=j then 1 else 0):=by
  have lu:=ZaH (κ:=κ) n
  have wu:=ZaR (κ:=κ) n
  refine ⟨?_,?_⟩
  · have e:=Zfv (X:=ZaE ts0 (ZaA κ n)) (by rw[ZaP,lu]) (ZaX wu (by rw[lu]; exact ok0)) ok i hi j
    rw[h,ZbY hi hj] at e
    exact e.symm
  · have e:=Zfv (X:=ZaE ts (ZaA κ n)) (by rw[ZaP,lu]) (ZaX wu (by rw[lu]; exact ok)) ok0 i hi j
    rw[(Zmg ok0 ok h).1,ZbY hi hj] at e
    exact e.symm
end
structure TabR (κ:KX) (H:Hp) (a:Addr) (rs:List Addr) (R:List (List κ.F)) (m:Nat):Prop where
  l:H a=some (.lst (rs.map V.ref))
  r:RowsX κ H rs R
  w:Wid m R
  n1:1<=R.length
  n9:R.length<=100
theorem TabR.same{κ:KX}{H H':Hp}{a:Addr}{rs:List Addr}{R:List (List κ.F)}{m:Nat}(h:TabR κ H a rs R m)(S:Same H H'):TabR κ H' a rs R m:=⟨S _ _ h.l,h.r.same S,h.w,h.n1,h.n9⟩
theorem TabR.fst{κ:KX}{H:Hp}{a:Addr}{rs:List Addr}{R:List (List κ.F)}{m:Nat}(h:TabR κ H a rs R m):∃a0 xs,rs[0]?=some a0/\H a0=some (.lst xs)/\xs.length=m:=by
  have n1:=h.n1
  obtain ⟨a0,xs,ha,hx,al⟩:=h.r.get (i:=0) ⋯
  exact ⟨a0,xs,ha,hx,by rw[al.1]; exact h.w _ (Qe _)⟩
inductive ZcB (vs:List V) (H:Hp) (Q:VK) (zE:XK):Prop
  | mk (κ:KX) (a:Addr) (rs:List Addr) (R:List (List κ.F)) (m:Nat) (_:vs=[.ref a]) (_:TabR κ H a rs R m) (_:Q (.bl (decide (R.length=m))) H):ZcB vs H Q zE
inductive Zbn (cF:Addr) (vs:List V) (H:Hp) (Q:VK) (E:XK):Prop
  | mk (κ:KX) (a:Addr) (rs:List Addr) (R:List (List κ.F)) (m:Nat) (_:vs=[.ref a]) (_:TabR κ H a rs R m) (_:(R.length=m->Q .non H)) (_:(R.length≠m->E (.ref cF) none H)):Zbn cF vs H Q E
inductive ZgB (cI:Addr) (vs:List V) (H:Hp) (Q:VK) (zE:XK):Prop
  | mk (e:Addr) (r:Nat) (_:vs=[.ref e,.int (r:Int)]) (_:r<=9) (_:H e=some (ZfW e cI none)) (_:∀d,H d=none->Q .non (upd (upd H d (.xd [("rank", .int (r:Int))])) e (ZfW e cI (some d)))):ZgB cI vs H Q zE
inductive Zep (CF CR cF cI:Addr) (vs:List V) (H:Hp) (Q:VK) (E:XK):Prop
  | mk (κ:KX) (s tb:Addr) (rs:List Addr) (A:List (List κ.F)) (m:Nat) (_:vs=[.ref s,.ref tb]) (_:KdX CF CR κ H s) (_:TabR κ H tb rs A m) (_:(A.length≠m->E (.ref cF) none H)) (_:(A.length=m->m<=7/\∃(R:List (List κ.F)) (ts0:List (Tn κ)) (ls:List Nat),A=ZaE ts0 R/\R.length=m/\Wid m R/\(∀t∈ts0,t.ok m)/\Ech R m m ls 1/\QT κ m (Zc3 A (([]:List κ.F).map (1 * ·)))/\(ls.length<m->∀(H':Hp) (d:Addr),Same H H'->H' d=some (.xd [("rank", .int (ls.length:Int))])->E (.ref cI) (some d) H')/\(ls.length=m->∀(H':Hp) (D:Addr) (as:List Addr) (ts:List (Tn κ)),Same H H'->H D=none->H' D=some (.lst (as.map V.ref))->RowsX κ H' as (ZaE ts (ZaA κ m))->as.Nodup->D∉as->(∀a∈as,H a=none)->(∀t∈ts,t.ok m)->ZaE ts (ZaE ts0 R)=R->Q (.ref D) H'))):Zep CF CR cF cI vs H Q E
end My
namespace My
open PySem L2 PyProof.Rows
section
variable{P:Program}{w:World}{K:PySem.W.Frag}{mg:Str->Option Value}{base:Heap}{CF CR cF cT cI CE fI:Addr}
theorem Zhk:FnScope ["table"] ["table"] (Zag Zdx):=‹2›
theorem ZgC(h:Here K mg "is_square" Zdx) (T:Nm mg):Has P w K mg base "is_square" 1 ["table"] ZcB:=by
  refine h.has (λf fd F=>F.binds λ_ _ _ _ _ _ us hl=>by obtain ⟨_,rfl⟩:=Zlp hl; exact rfl) λf fd F=>F.ok Zhk (λvs H Q E h=>?_) (λcdv A outer s H vs Q E hr h=>?_)
  · obtain ⟨_,_,_,_,_,rfl,_⟩:=h
    rfl
  obtain ⟨κ,a,rs,R,m,rfl,ta,k⟩:=h
  refine ⟨_,(Zae (Zaj (ZaM Zbh (Zam Zai (by rfl) T.len boot_len (Zaa (pv 0) Zac)) (Zam Zai (by rfl) T.len boot_len (Zaa (Zar Zav (pv 0) Zad (λ_ _=>rfl)) Zac)) (Zap _)))),?_⟩
  have lr:=ta.r.1
  obtain ⟨a0,xs,ha,hx,lx⟩:=ta.fst
  refine ⟨_,rfl,a,_,rfl,.inl (SqL.of ta.l),_,rfl,a,_,0,_,rfl,rfl,SqL.of ta.l,Zbq (i:=0) ha,a0,_,rfl,.inl (SqL.of hx),rfl,?_⟩
  rw[Q1,lr,lx]
  have e:decide (V.int (R.length:Int)=V.int (m:Int))=decide (R.length=m):=by
    by_cases z:R.length=m
    · rw[decide_eq_true z,decide_eq_true (by rw[z])]
    · rw[decide_eq_false z,decide_eq_false (λq=>z (by have:=V.int.inj q; omega))]
  rw[e]
  exact k
theorem ZfL:FnScope ["table"] ["table"] (Zag Zct):=‹2›
theorem Zfw(h:Here K mg "need_square" Zct) (c_NoFit:ExcC K mg "NoFit" cF) (h_is_square:Has P w K mg base "is_square" 1 ["table"] ZcB):HasX P w K mg base "need_square" 2 ["table"] (Zbn cF):=by
  refine h.hasX (λf fd F=>F.binds λ_ _ _ _ _ _ us hl=>by obtain ⟨_,rfl⟩:=Zlp hl; exact rfl) λf fd F=>F.okx ZfL (λvs H Q E h=>?_) (λcdv A outer s H vs Q E hr h=>?_)
  · obtain ⟨_,_,_,_,_,rfl,_⟩:=h
    rfl
  obtain ⟨κ,a,rs,R,m,rfl,ta,k,kE⟩:=h
  refine ⟨_,(Zae (ZaC (ZbR (Zbo (Zao h_is_square hr (by rfl) (Zaa (pv 0) Zac)))) (Zae (Zcs c_NoFit Ze3 rfl (by rfl) (Zaa Zbe Zac))) Zat)),?_⟩
  refine ⟨_,rfl,κ,a,rs,R,m,rfl,ta,_,rfl,?_⟩
  refine ZjU (λz=>?_) (λz=>k z)
  exact ⟨(by show 1<=1000; decide),kE z⟩
theorem Zmh:FnScope ["self", "rank"] ["self", "rank"] (Zag Zay):=‹2›
theorem Zmi{fd:FuncData}(F:Fun K "__init__" "NoInverse.__init__" Zay fI fd) (u:XUp K mg "FrameError" CE) (c:XIni K mg "NoInverse" cI CE fI) (hna:PySem.W.findIn K (.ref cI) "rank" = some none):FnOk P w K mg base CX0 1 fI fd ["self", "rank"] (ZgB cI):=by
  refine F.ok Zmh (λvs H Q E h=>?_) (λcdv A outer s H vs Q E hr h=>?_)
  · obtain ⟨_,_,rfl,_⟩:=h
    rfl
  obtain ⟨e,r,rfl,r9,he,k⟩:=h
  refine ⟨_,(Zab (ZaL (Zje u c (by rfl) (Zaa (pv 0) (Zaa (Znq (pv 1)) Zac))))
    (Zae (Znr c hna (pv 0) (pv 1) rfl))),?_⟩
  have hz:∀r:Nat,r<=9->((r:Int)).natAbs.log2<1920/\(Str.empty++Str.ofString "a table of rank " ++ Str.ofString (toString (r:Int))).length<=sizeLine/\(Str.empty++Str.ofString "a table of rank " ++ Str.ofString (toString (r:Int))++Str.ofString ", less than its rows, has no inverse").length<=sizeLine:=by
    intro r hr
    rcases (by omega:r=0\/r=1\/r=2\/r=3\/r=4\/r=5\/r=6\/r=7\/r=8\/r=9) with q | q | q | q | q | q | q | q | q | q <;> subst q <;> decide +kernel
  obtain ⟨z1,z2,z3⟩:=hz r r9
  refine ⟨_,rfl,_,rfl,(r:Int),rfl,z1,z2,z3,e,_,rfl,he,?_⟩
  exact ⟨_,rfl,_,rfl,e,rfl,he,λd nd=>k d nd⟩
theorem sc_inverse:FnScope ["kind", "table", "found"] ["kind", "table"] (Zag Zfb):=‹2›
theorem Zjx{fd:FuncData}(h:Here K mg "inverse" Zfb) (T:Nm mg) (cI':XIni K mg "NoInverse" cI CE fI) (FI:FnOk P w K mg base CX0 1 fI fd ["self", "rank"] (ZgB cI)) (bI:Binds K fd ["self", "rank"] []) (h_need_square:HasX P w K mg base "need_square" 8 ["table"] (Zbn cF)) (h_steps:Has P w K mg base "steps" 8 ["kind", "table"] (Zgz CF CR)) (h_done:HasX P w K mg base "done" 8 ["kind", "table", "turns"] (ZhW CF CR cT)) (h_unit:Has P w K mg base "unit" 8 ["kind", "size"] (ZeO CF CR)):HasX P w K mg base "inverse" 9 ["kind", "table"] (Zep CF CR cF cI):=by
  refine h.hasX (λf fd F=>F.binds λ_ _ _ _ _ _ us hl=>by obtain ⟨_,_,rfl⟩:=ZdM hl; exact rfl) λf fd F=>F.okx sc_inverse (λvs H Q E h=>?_) (λcdv A outer s H vs Q E hr h=>?_)
  · obtain ⟨_,_,_,_,_,_,rfl,_⟩:=h
    rfl
  obtain ⟨κ,sk,tb,rs,A,m,rfl,hk,ta,kF,kS⟩:=h
  have nd:=sc_inverse.nd
  refine ⟨_,(Zab (ZaL (Zcr h_need_square ZhH hr (by rfl) (Zaa (pv 1) Zac)))
    (Zab (Zak (i:=2) nd rfl (Or.inl rfl) (Zao h_steps hr (by rfl) (Zaa (pv 0) (Zaa (pv 1) Zac))))
    (Zab (ZaC (Zaq Zca (Zam Zai (by rfl) T.len boot_len (Zaa (Zar Zan (pv 2) Zad (λ_ _=>rfl)) Zac)) (Zam Zai (by rfl) T.len boot_len (Zaa (pv 1) Zac)) (Zap _)) (Zae (Zkf cI' FI bI Znp rfl (hr.mono ∅) (by rfl) (Zaa (Zam Zai (by rfl) T.len boot_len (Zaa (Zar Zan (pv 2) Zad (λ_ _=>rfl)) Zac)) Zac))) Zat)
    (Zae (Zaj (Zcr h_done ZhH hr (by rfl) (Zaa (pv 0) (Zaa (Zao h_unit hr (by rfl) (Zaa (pv 0) (Zaa (Zam Zai (by rfl) T.len boot_len (Zaa (pv 1) Zac)) Zac))) (Zaa (Zar Zan (pv 2) Zad (λ_ _=>rfl)) Zac))))))))),?_⟩
  refine ⟨_,rfl,κ,tb,rs,A,m,rfl,ta,(λsq=>?_),kF⟩
  obtain ⟨m7,R,ts0,ls,eA,lR,wR,ok0,ech,qt,kI,kQ⟩:=kS sq
  have lr:=ta.r.1
  have n1:=ta.n1
  have wA:=ta.w
  have lW:(Zc3 A (([]:List κ.F).map (1 * ·))).length=m:=by rw[ZiO]; exact sq
  have wW:=Zmb (([]:List κ.F).map (1 * ·)) wA
  refine ⟨_,rfl,_,rfl,κ,sk,tb,rs,Zc3 A (([]:List κ.F).map (1 * ·)),m,m+1+A.length,rfl,hk,ta.l,(by rw[Zhi _ wA]; exact ta.r),wW,⋯,⋯,⋯,m7,⋯,qt,λH1 t D u L rs' tvs ts ls' S1 ht hD rx' hU al hL ok' pre' l200 ech' stg nD nu nL nr' ndr nrd nDu nDL nuL=>?_⟩
  rw[lW] at ok' ech'
  have ech2:=Zmc ech'
  rw[ZoD wA,eA] at ech2
  obtain ⟨el,run⟩:=Zl9 wR (by rw[lR]; exact ok0) (by rw[lR]; exact ok') (by rw[lR]; exact ech) (by rw[lR]; exact ech2)
  subst el
  have le:=ech2.le
  refine ⟨_,rfl,t,_,2,_,rfl,rfl,SqT.of ht,rfl,L,_,rfl,.inl (SqL.of hL),_,rfl,tb,_,rfl,.inl (SqL.of (S1 _ _ ta.l)),_,_,rfl,rfl,_,rfl,?_⟩
  rw[Q1,Q1,lr,sq]
  refine Za3 (λz=>?_) (λz=>?_)
  · have z:(ls'.length:Int)<(m:Int):=z
    refine ⟨_,rfl,t,_,2,_,rfl,rfl,SqT.of ht,rfl,L,_,rfl,.inl (SqL.of hL),(by show 1<=1000; decide),λa na sa=>?_⟩
    rw[Q1]
    refine ⟨a,ls'.length,rfl,⋯,Zaf,λd nd'=>⟨rfl,a,some d,upd H1 d (.xd [("rank", .int (ls'.length:Int))]),rfl,sa,?_,?_,?_⟩⟩
    · have hda:d≠a:=λq=>by rw[q,Zaf] at nd'; cases nd'
      funext b
      by_cases hb:b=a
      · subst hb; rw[Zaf,Zaf]
      · rw[Zas hb,Zas hb]
        by_cases hb2:b=d
        · subst hb2; rw[Zaf,Zaf]
        · rw[Zas hb2,Zas hb2,Zas hb]
    · have hda:a≠d:=λq=>by rw[<-q,Zaf] at nd'; cases nd'
      rw[Zas hda]; exact na
    · have nd1:H1 d=none:=by
        have hda:d≠a:=λq=>by rw[q,Zaf] at nd'; cases nd'
        rw[Zas hda] at nd'; exact nd'
      exact kI ⋯ _ d (S1.trans (Zah nd1 _)) Zaf
  · have z:¬((ls'.length:Int)<(m:Int)):=z
    have full:ls'.length=m:=by omega
    refine ⟨_,rfl,_,rfl,_,rfl,tb,_,rfl,.inl (SqL.of (S1 _ _ ta.l)),?_⟩
    rw[Q1,lr,sq]
    refine ⟨κ,sk,m,rfl,hk.same S1,⋯,λH2 D1 rs1 S2 nD1 hD1 rx1=>?_⟩
    have lu:(ZaA κ m).length=m:=ZaH m
    have preU:∀(i:Nat) t,ts[i]?=some t->t.pre (ZaE (ts.take i) (ZaA κ m)):=λi t hti=>by
      have:=Zl5 (m+1) (pre' i t hti)
      rw[ZoE wA,sq] at this
      exact Tn.preS.pre this
    refine ⟨_,rfl,t,_,1,_,rfl,rfl,SqT.of (S2 _ _ ht),rfl,κ,sk,D1,u,rs1,ZaA κ m,tvs,ts,m,rfl,hk.same (S1.trans S2),hD1,rx1,⋯,ZaR m,⋯,S2 _ _ hU,al.mono (λ_ _ n=>n.same S2),λi t hti _=>preU i t hti,λ_ H3 D3 as S3 nD3 hD3 rx3 nda nDa fra=>?_,λ⟨t,hti,z⟩=>absurd (by rw[lu]; exact ok' t hti) z⟩
    have S03:=S1.trans S2
    exact kQ full H3 D3 as ts (S03.trans S3) (S03.free nD3) hD3 rx3 nda nDa (λa ha=>S03.free (fra a ha)) ok' (by rw[<-eA] at run ⊢; exact run)
end
end My
namespace My
open PySem L2 PyProof.Rows
section
variable{κ:KX}
noncomputable def ZnL(N s n:Nat)(f:List κ.F):List κ.F:=List.replicate s 0++f++List.replicate (N-s-n) 0
noncomputable def Zpn(N:Nat):Nat->List (List (List κ.F))->List (List κ.F)
  | _,[]=>[]
  | s,T::Ts=>T.map (ZnL N s T.length)++Zpn N (s+T.length) Ts
noncomputable def Zpo(N i:Nat)(x:κ.F)(b:Bool):List κ.F:=(List.range N).map λj=>if j=i then x else if b=true/\j+1=i then 1 else 0
noncomputable def Zqs(x:κ.F)(n:Nat):List (List κ.F):=(List.range n).map λp=>(List.range n).map λc=>if c=p then x else if c+1=p then 1 else 0
noncomputable def dsc(bl:List (κ.F×Nat)):List (κ.F×Bool):=bl.flatMap λd=>(List.range d.2).map λk=>(d.1,decide (0<k))
noncomputable def Zqe(bl:List (κ.F×Nat)):List (List κ.F):=(dsc bl).mapIdx λi d=>Zpo (dsc bl).length i d.1 d.2
noncomputable def Zqf(i:Nat)(d:κ.F×Bool):List κ.F:=if d.2=true then (List.replicate i 0++[d.1]).set (i-1) 1 else List.replicate i 0++[d.1]
noncomputable def Zqg(ds:List (κ.F×Bool)):List (List κ.F):=ds.mapIdx Zqf
end
end My
namespace My
open PySem L2 PyProof.Rows
end My
namespace L2
open PySem PySem.Spec PyProof.Rows
section
variable{X:Cx}{e st:Expr}{te ts:TE}{pos p2:Pos}
end
section
variable{X:Cx}{k:Nat}
end
end L2
namespace L2
open PySem PySem.Spec PyProof.Rows
def Itd(hi:Int)(n:Nat):It:=⟨λi _=>i<n,λi H x H'=>H'=H/\x = .int (hi-i),λi _=>n<=i⟩
theorem ZkQ{P:Program}{w:World}{K:PySem.W.Frag}{tg:Expr}(it:Addr)(lo:Int)(n:Nat):Turn P w K tg (Itd lo n) [it] it (λi h=>IsRangeIter h it (lo+(i:Nat)*(-1)) ((n:Int)-(i:Nat)) (-1)) where
  mem:=by simp
  obj:=λi h st b hb=>by
    have e:b=it:=by simpa using hb
    subst e
    exact ⟨_,st,λv z=>by
      have z':Data.fields _=Data.cell v:=z
      cases z'⟩
  keep:=λi h h' st k=>k it (by simp) _ st
  item:=by
    intro X hP hw hK hc i pins s σ H E I hf st hg
    subst hP hw hK
    obtain ⟨f0,f1,f2,f3,f4,f5⟩:=hf it (by simp)
    have W:=Walks.range (prog:=X.prog) (w:=X.w) (I.ok.hd hc) it lo (-1) n
    refine W.item i s _ _ hg st λv h' tk hv st' kk=>?_
    obtain ⟨t,rfl⟩:=hv
    have I1:Inv X pins σ H { s with heap:=h',toks:=tk }:=I.turned (λb o hb e=>kk b o (by simpa using hb) e) f0 f1 f3 f4 f5
    refine ⟨_,rfl,ZmV (s:={ s with heap:=h',toks:=tk }) (n := "range_iterator") st' rfl rfl ∅ ⟨.int (lo-i),H,I1,⟨t,?_⟩,⟨rfl,rfl⟩,st',λb hb=>(hf b hb).1⟩⟩
    congr 1
    omega
  done:=by
    intro X hP hw hK hc i pins s σ H E I hf st hg
    subst hP hw hK
    obtain ⟨f0,f1,f2,f3,f4,f5⟩:=hf it (by simp)
    exact wpAny_pyNext_range_end (I.ok.hd hc) st (by have:n<=i:=hg; omega) λh' eb=>⟨rfl,I.turned (t':=s.toks) (λb o hb e=>eb b o hb e) f0 f1 f3 f4 f5⟩
  self:=λ_ _ _ _ _ st h=>wpAny_pyIter_rangeiter st h
section
variable{X:Cx}{tg:Expr}
theorem Zhl(a b:Int):Builtin.Range.rangeSize a b (-1)=((a-b).toNat:Int):=by
  unfold Builtin.Range.rangeSize
  simp only[show ¬((-1:Int)>0) by decide,if_false,show (-(-1):Int)=1 from rfl,Int.ediv_one]
  split <;> omega
theorem Zmj{a b:Int}(ha:-(2^62)<=a)(ha':a<2^62)(hb:-(2^62)<=b)(hb':b<2^62):Builtin.Range.small a b (-1)=true:=by
  unfold Builtin.Range.small
  rw[Zhl]
  simp only[Builtin.Range.rangeFitsLong,Uj,Bool.or_eq_true,decide_eq_true_eq,beq_iff_eq,show ¬((-1:Int)>0) by decide,if_false]
  omega
theorem Zmk{pins:List (Addr×Obj)}{σ:St}{H:Hp}{s:Shared}{R:It->Hp->Prop}{E:Value->Shared->Prop}{lo hi:Int}{t u v:Tok}{tk:Nat}(I:Inv X pins σ H s)(h1:-(2^62)<=lo)(h2:lo<2^62)(h3:-(2^62)<=hi)(h4:hi<2^62)
    (q:R (Itd lo (lo-hi).toNat) H):wpAny (model X.prog X.w) X.A (pyIter (.ref s.heap.objs.size)) (PIE X pins σ tg R) E { s with heap:=s.heap.push { cls:=.type "range", data:=.fields #[.int lo t,.int hi u,.int (-1) v] },toks:=tk }:=by
  refine wpAny_pyIter_range (IsRange.new ..) (Zmj h1 h2 h3 h4) ?_
  have I1:Inv X pins σ H { s with heap:=s.heap.push { cls:=.type "range", data:=.fields #[.int lo t,.int hi u,.int (-1) v] },toks:=tk }:=I.kept λb o e=>Heap.get?_push_of_some _ e
  refine ⟨(s.heap.push { cls:=.type "range", data:=.fields #[.int lo t,.int hi u,.int (-1) v] }).objs.size,[(s.heap.push { cls:=.type "range", data:=.fields #[.int lo t,.int hi u,.int (-1) v] }).objs.size],_,_,H,rfl,
    I1.kept (t':=tk) λb o e=>Heap.get?_push_of_some _ e,ZkQ _ lo (lo-hi).toNat,?_,λb hb=>?_,q⟩
  · have e1:lo+((0:Nat):Int)*(-1)=lo:=by simp
    have e2:(((lo-hi).toNat:Nat):Int)-((0:Nat):Int)=Builtin.Range.rangeSize lo hi (-1):=by rw[Zhl]; omega
    show IsRangeIter _ _ (lo+((0:Nat):Int)*(-1)) ((((lo-hi).toNat:Nat):Int)-((0:Nat):Int)) (-1)
    rw[e1,e2]
    exact Heap.get?_push_size _ rfl
  · have e:b=(s.heap.push { cls:=.type "range", data:=.fields #[.int lo t,.int hi u,.int (-1) v] }).objs.size:=by simpa using hb
    subst e
    exact I1.fpOk (Q4 _) (I1.hok.fresh (Q4 _))
def Zpp(ta:TA):TI:=λσ H R=>ta σ H λvs H1=>∃i j:Int,vs=[.int i,.int j,.int (-1)]/\(-(2^62)<=i/\i<2^62 /\ -(2^62)<=j/\j<2^62)/\R (Itd i (i-j).toNat) H1
theorem ZkR{a b c:Expr}{ta:TA}{p pos:Pos}(hg:Gl X "range") (hm:X.mg "range" = none) (ha:PA X [a,b,c] ta) (hs:starEach [a,b,c] X.env=[(false,eval a X.env),(false,eval b X.env),(false,eval c X.env)]:=by rfl) (hs2:starEach [b,c] X.env=[(false,eval b X.env),(false,eval c X.env)]:=by rfl) :
    PI X tg (.Call (.Name "range" p) [a,b,c] [] pos) (Zpp ta):=by
  intro pins s σ H R I h
  refine Call_ (ZeQ I hg hm boot_range (PyProof.Rows.callWith_type1 (thn (ha pos pins s σ H _ I h) λus s1 ⟨vs,H1,I1,r1,q1⟩=>?_) (by rw[hs,hs2]) (by rw[hs2]; rfl)))
  obtain ⟨i,j,e,⟨q1,q2,q3,q4⟩,q⟩:=q1
  subst e
  cases r1 with
  | cons r rr =>
    cases rr with
    | cons r' rr =>
      cases rr with
      | cons r'' rr =>
        cases rr
        obtain ⟨t,rfl⟩:=r
        obtain ⟨t',rfl⟩:=r'
        obtain ⟨t'',rfl⟩:=r''
        exact call_range_3 ∅ (Zmk I1 q1 q2 q3 q4 q) (Or.inl (PyProof.noPylong_of_log2 (by decide +kernel)))
theorem Zml{hi:Int}{n:Nat}{g:TG}{tb:TS}{D:Ends}{σ:St}{H:Hp}(Pv:Nat->St->Hp->Prop)(h0:Pv 0 σ H)
    (hs:∀i σ H,i<n->Pv i σ H->g (.int (hi-i)) σ H λσ2 H2=>tb { D with nx:=Pv (i+1),ct:=Pv (i+1),bk:=D.nx } σ2 H2) (hd:∀σ H,Pv n σ H->D.nx σ H) :
    ∃W:Nat->Nat->St->Hp->Prop,(∃m,W 0 m σ H)/\∀i m σ H,W i m σ H →
      ((Itd hi n).stop i H/\D.nx σ H)\/((Itd hi n).go i H/\∃N:St->Hp->Prop,(∀σ' H',N σ' H'->∃m',m'<m/\W (i+1) m' σ' H')/\∀x H',(Itd hi n).yld i H x H'->g x σ H' λσ2 H2=>tb { D with nx:=N,ct:=N,bk:=D.nx } σ2 H2):=by
  refine ⟨λi m σ H=>m=n-i/\i<=n/\Pv i σ H,⟨_,rfl,Qk _,h0⟩,?_⟩
  rintro i m σ H ⟨rfl,hi',p⟩
  by_cases h:i<n
  · refine .inr ⟨h,Pv (i+1),λσ' H' p'=>⟨n-(i+1),⋯,rfl,h,p'⟩,λx H' y=>?_⟩
    obtain ⟨e1,e2⟩:=y
    subst e1 e2
    exact hs i σ _ h p
  · have e:i=n:=by omega
    subst e
    exact .inl ⟨Q4 _,hd σ H p⟩
end
section
variable{prog:Program}{w:World}{A:Around}{s:Shared}{R:Result->Shared->Prop}
end
section
variable{prog:Program}{w:World}{A:Around}{E:Value->Shared->Prop}{s:Shared}
end
section
variable{X:Cx}{e1:Expr}{ta:TA}{p p2 pos pos2:Pos}
end
end L2
namespace My
open PySem L2 PyProof.Rows
section
variable{κ:KX}
def QN(κ:KX)(D:Int)(M:Nat)(x:κ.F):Prop:=match κ with
  | .q=>∃X:Int,x=Rat.divInt X D/\X.natAbs<=M
  | .r _ _=>True
theorem QN.mono{D:Int}{M N:Nat}{x:κ.F}(h:QN κ D M x)(l:M<=N):QN κ D N x:=by
  cases κ with
  | r p hp=>exact trivial
  | q=>obtain ⟨X,e,hX⟩:=h; exact ⟨X,e,Q0 hX l⟩
theorem QN.mul{D E:Int}{M N:Nat}{x y:κ.F}(h:QN κ D M x)(g:QN κ E N y):QN κ (D*E) (M*N) (x*y):=by
  cases κ with
  | r p hp=>exact trivial
  | q =>
    obtain ⟨X,rfl,hX⟩:=h
    obtain ⟨Y,rfl,hY⟩:=g
    exact ⟨X*Y,Wm _ _,by rw[Qq]; exact Qz hX hY⟩
theorem QN.add{D:Int}(hD:0<D){M N:Nat}{x y:κ.F}(h:QN κ D M x)(g:QN κ D N y):QN κ D (M+N) (x+y):=by
  cases κ with
  | r p hp=>exact trivial
  | q =>
    obtain ⟨X,rfl,hX⟩:=h
    obtain ⟨Y,rfl,hY⟩:=g
    refine ⟨X+Y,?_,Q0 (Int.natAbs_add_le X Y) (Nat.add_le_add hX hY)⟩
    show Rat.divInt X D+Rat.divInt Y D=_
    rw[Uz _ _ ⋯ ⋯,W5 (Ul (Qu hD hD)) ⋯,<-Int.add_mul,Qn]
theorem QN.zero{D:Int}{M:Nat}:QN κ D M 0:=by
  cases κ with
  | r p hp=>exact trivial
  | q=>exact ⟨0,(Rat.zero_divInt D).symm,Qk _⟩
theorem QN.b1{D:Int}(hD:0<D)(lD:D.natAbs<2^3000){M:Nat}(lM:M<2^3000){x:κ.F}(h:QN κ D M x):B1 κ x:=by
  cases κ with
  | r p hp=>exact trivial
  | q =>
    obtain ⟨X,rfl,hX⟩:=h
    obtain ⟨d1,d2⟩:=ZbU X hD
    refine ⟨?_,?_⟩
    · show Bits 1000000 (Rat.divInt X D).num
      exact Zdj d2 ((Bits.of (n:=3000) (Qc hX lM)).up ∅) (ZeJ X hD)
    · show Bits 4000 ((Rat.divInt X D).den:Int)
      exact Zdj d1 ((Bits.of (n:=3000) lD).up ∅) (λz=>by omega)
theorem ZiP{κ:KX}:QN κ 1 1 1:=by
  cases κ with
  | r p hp=>exact trivial
  | q=>exact ⟨1,rfl,Q4 _⟩
noncomputable def pI(F G:List κ.F)(i:Nat):Nat->Nat->κ.F
  | 0,_=>0
  | j+1,k=>pI F G i j k+(if i+j=k then F.getD i 0*G.getD j 0 else 0)
noncomputable def pO(F G:List κ.F):Nat->Nat->κ.F
  | 0,_=>0
  | i+1,k=>pO F G i k+pI F G i G.length k
noncomputable def Zqt(F G:List κ.F)(i j:Nat):List κ.F:=(List.range (F.length+G.length)).map λk=>pO F G i k+pI F G i j k
theorem ZnM{κ:KX}:(0:κ.F)+0=0:=by grind
noncomputable def Zqh(f:List κ.F)(d i:Nat):List κ.F:=(List.range d).map λc=>if c+1=d then 0-f.getD i 0 else if c+1=i then 1 else 0
noncomputable def Zqu(f:List κ.F):List (List κ.F):=(List.range (f.length-1)).map λi=>Zqh f (f.length-1) i
noncomputable def atE:List (List κ.F)->Nat->Nat->Nat->κ.F
  | [],_,_,_=>0
  | f::fs,s,i,j=>if s<=i/\i<s+(f.length-1)/\j+1=s+(f.length-1) then 0-f.getD (i-s) 0 else if s<=i/\i<s+(f.length-1)/\s<=j then (if i=j+1 then 1 else 0) else atE fs (s+(f.length-1)) i j
end
end My
namespace My
open PySem L2 PyProof.Rows
inductive Zc5 (vs:List V) (H:Hp) (Q:VK) (zE:XK):Prop
  | mk (κ:KX) (u:V) (x:κ.F) (_:vs=[.int κ.P,u]) (_:NR κ H u x) (_:Q (.bl true) H):Zc5 vs H Q zE
theorem ZkS{p:Prop}[Decidable p]{Q:V->Hp->Prop}{H:Hp}(h:p)(k:Q (.bl true) H):Q (.bl (decide p)) H:=by rw[decide_eq_true h]; exact k
def spF:Sp:=λ_ _ _ _=>False
end My
namespace My
open PySem L2 PyProof.Rows
theorem ZkT{κ:KX}{l:List κ.F}{i:Nat}(h:i<l.length):l[i]?=some (l.getD i 0):=by
  rw[Q3,Q2 h]; rfl
theorem Zh9{κ:KX}{H:Hp}{xs:List V}{f:List κ.F}(h:AllG (NR κ H) xs f){i:Nat}(hi:i<f.length):∃v,xs[i]?=some v/\NR κ H v (f.getD i 0):=by
  obtain ⟨v,hv⟩:=Zaw (ZkT hi) h.1.symm
  obtain ⟨x,hx,nx⟩:=h.get hv
  rw[ZkT hi] at hx
  cases hx
  exact ⟨v,hv,nx⟩
end My
namespace My
open PySem L2 PyProof.Rows
end My
namespace My
open PySem L2 PyProof.Rows
section
variable{κ:KX}
noncomputable def Zhm(f g:List κ.F):Nat->κ.F
  | 0=>0
  | k+1=>Zhm f g k+f.getD k 0*g.getD k 0
noncomputable def Zjy(f g:List κ.F):κ.F:=Zhm f g f.length
theorem ZkU{f g:List κ.F}{i:Nat}{x y:κ.F}(hx:f[i]?=some x)(hy:g[i]?=some y):Zhm f g (i+1)=Zhm f g i+x*y:=by
  show Zhm f g i+f.getD i 0*g.getD i 0=_
  rw[Q3,Q3,hx,hy]; rfl
theorem ZkV{D E:Int}{M N:Nat}{f g:List κ.F}(hDE:0<D*E)(hf:∀x∈f,QN κ D M x)(hg:∀x∈g,QN κ E N x):∀k,k<=f.length->k<=g.length->QN κ (D*E) (k*(M*N)) (Zhm f g k)
  | 0,_,_=>QN.zero
  | k+1,h1,h2=>by
    rw[Nat.succ_mul]
    have a:f.getD k 0∈f:=by rw[Q3,Q2 (show k<f.length by omega)]; exact Qe _
    have b:g.getD k 0∈g:=by rw[Q3,Q2 (show k<g.length by omega)]; exact Qe _
    exact QN.add hDE (ZkV hDE hf hg k ⋯ ⋯) (QN.mul (hf _ a) (hg _ b))
end
theorem ZiQ{x:Rat}{A:Int}(hA:0<A)(h:(x.den:Int) ∣ A):x=Rat.divInt (x.num*(A/x.den)) A:=by
  have hd:=(Za8 x).pos
  obtain ⟨c,rfl⟩:=h
  rw[Int.mul_ediv_cancel_left c ⋯]
  have:Rat.divInt x.num x.den=Rat.divInt (x.num*c) (x.den*c):=by
    rw[W5 ⋯ ⋯]
    rw[Qn,Ql c]
  rw[<-this,Qs]
theorem Zia{X Y D:Int}(hD:0<D):Rat.divInt X D+Rat.divInt Y D=Rat.divInt (X+Y) D:=by
  rw[Uz _ _ ⋯ ⋯,W5 (Ul (Qu hD hD)) ⋯,<-Int.add_mul,Qn]
def tS(f g:List Rat)(A C:Int):Nat->Int
  | 0=>0
  | k+1=>tS f g A C k+(f.getD k 0).num*(A/(f.getD k 0).den)*(g.getD k 0).num*(C/(g.getD k 0).den)
theorem ZmI{f g:List Rat}{A C:Int}(hA:0<A)(hC:0<C)(dA:∀x∈f,(x.den:Int) ∣ A)(dC:∀x∈g,(x.den:Int) ∣ C):∀k,k<=f.length->k<=g.length->Rat.divInt (tS f g A C k) (A*C)=Zhm (κ:=.q) f g k
  | 0,_,_=>Rat.zero_divInt _
  | k+1,h1,h2=>by
    have a:f.getD k 0∈f:=by rw[Q3,Q2 (show k<f.length by omega)]; exact Qe _
    have b:g.getD k 0∈g:=by rw[Q3,Q2 (show k<g.length by omega)]; exact Qe _
    have ih:=ZmI hA hC dA dC k ⋯ ⋯
    have e1:=ZiQ hA (dA _ a)
    have e2:=ZiQ hC (dC _ b)
    have e3:(f.getD k 0)*(g.getD k 0)=Rat.divInt ((f.getD k 0).num*(A/(f.getD k 0).den)*(g.getD k 0).num*(C/(g.getD k 0).den)) (A*C):=by
      conv=>lhs; rw[e1,e2]
      rw[Wm,<-Qn]
    show Rat.divInt (tS f g A C k+_) (A*C)=Zhm (κ:=.q) f g k+(f.getD k 0:Rat)*(g.getD k 0:Rat)
    rw[<-Zia (Qu hA hC),ih,e3]
def W60(f:List Rat):Prop:=∀x∈f,x.num.natAbs<=10^500/\x.den<=10^200
inductive ZbZ (vs:List V) (H:Hp) (Q:VK) (zE:XK):Prop
  | mk (s:Addr) (t b:Int) (_:vs=[.ref s,.int t,.int b]) (_:0<b) (_:b.natAbs<=10^1000) (_:∀(r:Addr) (x y:Int),H r=none->Fc x y->x*b=t*y->Q (.ref r) (upd H r (.tup [.int x,.int y]))):ZbZ vs H Q zE
inductive ZgD (CF:Addr) (vs:List V) (H:Hp) (Q:VK) (zE:XK):Prop
  | mk (s r1 r2:Addr) (xs ys:List V) (f g:List Rat) (B C:Int) (_:vs=[.ref s,.ref r1,.ref r2]) (_:FrA CF H s) (_:H r1=some (.lst xs)) (_:H r2=some (.lst ys)) (_:AllG (NR .q H) xs f) (_:AllG (NR .q H) ys g) (_:f.length=g.length) (_:f.length<=100) (_:W60 f) (_:W60 g) (_:0<B) (_:B.natAbs<=10^200) (_:(∀x∈f,((Rat.den x:Nat):Int) ∣ B)) (_:0<C) (_:C.natAbs<=10^200) (_:(∀x∈g,((Rat.den x:Nat):Int) ∣ C)) (_:∀H' v,Same H H'->NR .q H' v (Zjy (κ:=.q) f g)->Q v H'):ZgD CF vs H Q zE
inductive ZgE (CR:Addr) (vs:List V) (H:Hp) (Q:VK) (zE:XK):Prop
  | mk (p:Nat) (hp:PrN p) (s r1 r2:Addr) (xs ys:List V) (f g:List (KX.r p hp).F) (_:vs=[.ref s,.ref r1,.ref r2]) (_:ReA CR p H s) (_:H r1=some (.lst xs)) (_:H r2=some (.lst ys)) (_:AllG (NR (.r p hp) H) xs f) (_:AllG (NR (.r p hp) H) ys g) (_:f.length=g.length) (_:f.length<=100) (_:∀H' v,Same H H'->NR (.r p hp) H' v (Zjy f g)->Q v H'):ZgE CR vs H Q zE
def ZkW(P:Program)(w:World)(K:PySem.W.Frag)(mg:Str->Option Value)(base:Heap)(CF CR:Addr):Prop :=
  ∀(κ:KX) (H:Hp) (s:Addr),KdX CF CR κ H s->∃C dx fs ps dvs sp,H s=some (.ins C dx fs)/\Cls K C/\HasM P w K mg base C "sum_of_products" 3 ps dvs sp/\fs.lookup ("sum_of_products" : Str)=none/\dvs=[] ∧
    ∀(H':Hp) (r1 r2:Addr) (xs ys:List V) (f g:List κ.F) (D E M N:Nat) (Q:VK),Same H H'->H' r1=some (.lst xs)->H' r2=some (.lst ys)->AllG (NR κ H') xs f->AllG (NR κ H') ys g->f.length=g.length->f.length<=100->(∀x∈f,QN κ (D:Int) M x)->(∀x∈g,QN κ (E:Int) N x)->0<D->D<=10^200->0<E->E<=10^200->M<=10^500->N<=10^500->(∀H'' v,Same H' H''->NR κ H'' v (Zjy f g)->Q v H'')->sp [.ref s,.ref r1,.ref r2] H' Q E0
theorem ZmJ{D M:Nat}(hD:0<D)(lD:D<=10^200)(lM:M<=10^500){f:List Rat}(h:∀x∈f,QN .q (D:Int) M x):W60 f/\∀x∈f,((Rat.den x:Nat):Int) ∣ (D:Int):=by
  refine ⟨λx hx=>?_,λx hx=>?_⟩
  · obtain ⟨X,e,hX⟩:=h x hx
    have e:x=Rat.divInt X D:=e
    obtain ⟨d1,d2⟩:=ZbU X (show (0:Int)<(D:Int) by omega)
    rw[<-e] at d1 d2
    refine ⟨?_,?_⟩
    · by_cases z:X=0
      · have:=ZeJ X (show (0:Int)<(D:Int) by omega) z
        rw[<-e] at this
        rw[this]; exact Qk _
      · exact Q0 (ZaZ d2 z) (Q0 hX lM)
    · have:=ZaZ d1 (show (D:Int)≠0 by omega)
      rw[Qt,Qt] at this
      omega
  · obtain ⟨X,e,hX⟩:=h x hx
    have e:x=Rat.divInt X D:=e
    rw[e]
    exact (ZbU X (show (0:Int)<(D:Int) by omega)).1
theorem ZdY{n i:Nat}(h:n<=10^i)(hi:i<=1000:=by decide):n<=10^1000:=Q0 h (Qa ∅ hi)
theorem Zdm{n i:Nat}(h:n<=10^i)(hi:i<=2000:=by decide):n<=10^2000:=Q0 h (Qa ∅ hi)
theorem ZmK:10^2000<2^8000:=by decide +kernel
theorem ZnN{i j:Int}(h:i.natAbs<=10^2000)(h':j.natAbs<=10^2000):IntMulOk i j :=
  .of_bits (Q0 (Zdw (n:=8000) (Qc h ZmK)) ∅) (Q0 (Zdw (n:=8000) (Qc h' ZmK)) ∅)
theorem Zpq{a b:Int}{i j:Nat}(ha:a.natAbs<=10^i)(hb:b.natAbs<=10^j):(a*b).natAbs<=10^(i+j):=by
  rw[Qq,Uk]; exact Qz ha hb
theorem ZmL{A b:Int}:(A/b).natAbs<=A.natAbs:=Int.natAbs_ediv_le_natAbs A b
end My
namespace My
open PySem L2 PyProof.Rows
section
variable{P:Program}{w:World}{K:PySem.W.Frag}{mg:Str->Option Value}{base:Heap}{CF CR cN:Addr}
theorem Zib{tk:Tok}(h:HereD K CF "number" "Fractions.number" ZaO #[.int 1 tk]) (c:ExcC K mg "NoNumber" cN) (h_divisor:Has P w K mg base "divisor" 1 ["one", "other"] ZaU):HasMX P w K mg base CF "number" 2 ["self", "top", "bottom"] [] ZbZ:=by
  refine h.hasMX (ds:=[]) .nil (λf fd T F=>F.binds λ_ _ _ _ _ _ us hl=>by obtain ⟨_,_,_,rfl⟩:=Zdq (show us.length=3 by simpa using hl); exact ⟨_,rfl,rfl⟩) λf fd T F=>?_
  refine F.okx sc_Fractions_number (λvs H Q E h=>?_) (λcdv A outer s H vs Q E hr h=>?_)
  · obtain ⟨_,_,_,rfl,_⟩:=h
    rfl
  obtain ⟨sf,t,b,rfl,hb,lb,k⟩:=h
  have nd:=sc_Fractions_number.nd
  refine ⟨_,(Zab (ZaC (Zaq Zbh (pv 2) Zad (Zap _)) (Zae (Zcs c Ze3 rfl (by rfl) (Zaa Zbe Zac))) Zat)
    (Zab (Zak (i:=3) nd rfl (Or.inl rfl) (Zao h_divisor hr (by rfl) (Zaa (pv 1) (Zaa (pv 2) Zac))))
    (Zab (ZaC (Zaq Zca (pv 2) Zad (Zap _)) (Zae (Zak (i:=3) nd rfl (Or.inl rfl) (Zf0 ZdN (pv 3)))) Zat)
    (Zae (Zaj (ZaY (Zaa (Zal ZeG (pv 1) (pv 3)) (Zaa (Zal ZeG (pv 2) (pv 3)) Zac)))))))),?_⟩
  refine ⟨_,rfl,rfl,_,rfl,?_⟩
  refine ZbC (λz=>absurd z ⋯) (λ_=>?_)
  refine ⟨_,rfl,_,rfl,t,b,rfl,?_⟩
  refine ⟨_,rfl,_,_,rfl,rfl,_,rfl,?_⟩
  refine Za3 (λhn=>absurd hn ⋯) (λhn=>?_)
  have hg:=M3.gcd_ne (a:=t) (b:=b) ⋯
  have gl:Int.gcd t b<=b.natAbs:=Wy ⋯ (Wz.mpr (W1 t b))
  have hg1:(Int.gcd t b:Int)≠0/\((Int.gcd t b:Int)).natAbs<=10^1000:=⟨⋯,Q0 (show _<=b.natAbs from gl) lb⟩
  obtain ⟨l1,l2,l3,l4,l5⟩:=M3.low (t:=t) hb
  refine ⟨_,rfl,_,rfl,_,_,rfl,rfl,hg1,_,rfl,_,rfl,_,_,rfl,rfl,hg1,(by show 2<=sizeLine; decide),λr hr'=>?_⟩
  exact k r _ _ hr' ⟨l2,l1⟩ l3
end
section
variable{P:Program}{w:World}{K:PySem.W.Frag}{mg:Str->Option Value}{base:Heap}{CF CR cN:Addr}
theorem sc_Fractions_sum_of_products:FnScope ["self", "some", "others", "ahead", "behind", "total", "one", "other"] ["self", "some", "others"] (Zag ZaJ):=‹2›
theorem Zmm(h:HereM K CF "sum_of_products" "Fractions.sum_of_products" ZaJ) (cl:Cls K CF) (Tz:mg "zip" = none) (hB:HasM P w K mg base CF "common_bottom" 2 ["self", "some"] [] (Zbx K)) (hN:HasMX P w K mg base CF "number" 2 ["self", "top", "bottom"] [] ZbZ):HasM P w K mg base CF "sum_of_products" 3 ["self", "some", "others"] [] (ZgD CF):=by
  refine h.hasM (λf fd F=>F.binds λ_ _ _ _ _ _ us hl=>by obtain ⟨_,_,_,rfl⟩:=Zdq hl; exact rfl) λf fd F=>F.ok sc_Fractions_sum_of_products (λvs H Q E h=>?_) (λcdv A outer s H vs Q E hr h=>?_)
  · obtain ⟨_,_,_,_,_,_,_,_,_,rfl,_⟩:=h
    rfl
  obtain ⟨sf,r1,r2,xs,ys,f1,f2,B1',C1',rfl,⟨dx,hs⟩,h1,h2,al1,al2,lfg,l100,w1,w2,b0,bl,bd,c0,cl',cd,k⟩:=h
  have nd:=sc_Fractions_sum_of_products.nd
  refine ⟨_,(Zab (Zak (i:=3) nd rfl (Or.inl rfl) (Zbz (pv 0) hr (Zaa (pv 1) Zac)))
    (Zab (Zak (i:=4) nd rfl (Or.inl rfl) (Zbz (pv 0) hr (Zaa (pv 2) Zac)))
    (Zab (Zak (i:=5) nd rfl (Or.inl rfl) Zad)
    (Zab (Zbf PassesOwn.never rfl (Zha (by rfl) Tz (Zaa (pv 1) (Zaa (pv 2) Zac))) (ZjG rfl (Zby (Zau (i:=6) nd rfl (Or.inl rfl)) (Zby (Zau (i:=7) nd rfl (Or.inl rfl)) ZeT))) (Zae (Zio (i:=5) nd rfl (Or.inl rfl) (Zal ZaB (Zal ZaB (Zal ZaB (Zar Zan (pv 6) Zad (λ_ _=>rfl)) (Zal ZeG (pv 3) (Zar Zan (pv 6) Zad (λ_ _=>rfl)))) (Zar Zan (pv 7) Zad (λ_ _=>rfl))) (Zal ZeG (pv 4) (Zar Zan (pv 7) Zad (λ_ _=>rfl)))) Zmv)))
    (Zae (Zaj (Zbl (pv 0) ZeC hr (Zaa (pv 5) (Zaa (Zal ZaB (pv 3) (pv 4)) Zac))))))))),?_⟩
  have lx:=al1.1
  have ly:=al2.1
  have bitsB:∀ {Z:Int},Z.natAbs<=10^200->Bits 4000 Z:=fun {Z} hz=>Bits.of (Qc hz (Q5 (show 10^200<2^1000 by decide) (Qa ∅ ∅)))
  refine ⟨_,rfl,sf,CF,dx,[],_,_,Zbx K,rfl,hs,cl,hB,rfl,_,rfl,sf,r1,xs,f1,B1',rfl,h1,al1,b0,bitsB bl,bd,λA ⟨hA,dA,mA⟩=>?_⟩
  refine ⟨_,rfl,sf,CF,dx,[],_,_,Zbx K,rfl,hs,cl,hB,rfl,_,rfl,sf,r2,ys,f2,C1',rfl,h2,al2,c0,bitsB cl',cd,λC ⟨hC,dC,mC⟩=>?_⟩
  have lA:A.natAbs<=10^200:=Q0 (ZaZ (mA _ bd) ⋯) bl
  have lC:C.natAbs<=10^200:=Q0 (ZaZ (mC _ cd) ⋯) cl'
  refine ⟨_,rfl,_,rfl,r1,r2,rfl,⟨_,SqL.of h1⟩,⟨_,SqL.of h2⟩,?_⟩
  refine Zj9 (xs:=xs) (ys:=ys) (λi σ H2=>∃z6 z7:Option V,σ=[some (.ref sf),some (.ref r1),some (.ref r2),some (.int A),some (.int C),some (.int (tS f1 f2 A C i)),z6,z7]/\Same H H2) ⟨none,none,rfl,Same.refl H⟩ ?_ ?_ ?_
  · rintro i σ H2 ⟨z6,z7,rfl,S⟩
    exact ⟨SqL.of (S _ _ h1),SqL.of (S _ _ h2)⟩
  · rintro i u v Tp σ H2 hx hy nT ⟨z6,z7,rfl,S⟩
    obtain ⟨x,hx',t,rfl,ht⟩:=al1.get hx
    obtain ⟨y,hy',t',rfl,ht'⟩:=al2.get hy
    have ex:f1.getD i 0=x:=by rw[Q3,hx']; rfl
    have ey:f2.getD i 0=y:=by rw[Q3,hy']; rfl
    have hb:=(Za8 x).pos
    have hd:=(Za8 y).pos
    obtain ⟨la,lb⟩:=w1 x (Q9 hx')
    obtain ⟨lc,ld⟩:=w2 y (Q9 hy')
    have ST:=Zah nT (.tup [.ref t,.ref t'])
    refine ⟨Tp,_,rfl,SqT.of Zaf,rfl,_,_,rfl,_,_,rfl,rfl,?_⟩
    generalize upd H2 Tp (.tup [.ref t,.ref t'])=H3 at *
    have S3:=S.trans ST
    have qt:=SqT.of (K:=K) (S3 _ _ ht)
    have qu:=SqT.of (K:=K) (S3 _ _ ht')
    have eA:A.fdiv (x.den:Int)=A/x.den:=Ut _ ⋯
    have eC:C.fdiv (y.den:Int)=C/y.den:=Ut _ ⋯
    have lA':(A.fdiv (x.den:Int)).natAbs<=10^200:=by rw[eA]; exact Q0 ZmL lA
    have lC':(C.fdiv (y.den:Int)).natAbs<=10^200:=by rw[eC]; exact Q0 ZmL lC
    have m1:=Zpq la lA'
    have m2:=Zpq m1 lc
    refine ⟨_,rfl,_,rfl,t,_,_,_,rfl,rfl,qt,rfl,_,rfl,_,rfl,t,_,_,_,rfl,rfl,qt,rfl,_,_,rfl,rfl,⟨(show (x.den:Int)≠0 by omega),ZdY (by rw[Qt]; exact lb)⟩,_,_,rfl,rfl,ZnN (Zdm la) (Zdm lA'),_,rfl,t',_,_,_,rfl,rfl,qu,rfl,_,_,rfl,rfl,ZnN (Zdm m1) (Zdm lc),_,rfl,_,rfl,t',_,_,_,rfl,rfl,qu,rfl,_,_,rfl,rfl,⟨(show (y.den:Int)≠0 by omega),ZdY (by rw[Qt]; exact ld)⟩,_,_,rfl,rfl,ZnN (Zdm m2) (Zdm lC'),_,_,rfl,rfl,?_⟩
    refine ⟨some (.ref t),some (.ref t'),?_,S3⟩
    have e:tS f1 f2 A C (i+1)=tS f1 f2 A C i+x.num*(A.fdiv (x.den:Int))*y.num*(C.fdiv (y.den:Int)):=by
      show tS f1 f2 A C i+_=_
      rw[ex,ey,eA,eC]
    rw[e]
    rfl
  · rintro i σ H2 hi ⟨z6,z7,rfl,S⟩
    have hi:i=f1.length:=by omega
    subst hi
    have hAC:0<A*C:=Qu hA hC
    refine ⟨_,rfl,sf,CF,dx,[],_,_,ZbZ,rfl,S _ _ hs,cl,hN,rfl,_,rfl,_,rfl,_,rfl,_,_,rfl,rfl,Zpg (ZdY lA) (ZdY lC),sf,_,_,rfl,hAC,ZdY (Zpq lA lC),λr x y nr fc e=>?_⟩
    obtain ⟨q,q1,q2⟩:=Zkv fc
    have y0:=fc.pos
    have eq:q=Zjy (κ:=.q) f1 f2:=by
      have t:=ZmI hA hC dA dC f1.length (Q4 _) ⋯
      have:q=Rat.divInt (tS f1 f2 A C f1.length) (A*C):=by
        rw[<-Qs q,q1,q2,W5 ⋯ ⋯]
        exact e
      exact this.trans t
    refine k _ _ (S.trans (Zah nr _)) ⟨r,rfl,?_⟩
    rw[Zaf,<-eq]
    show some (HO.tup [V.int x,V.int y])=some (HO.tup [V.int (Rat.num q),V.int ((Rat.den q:Nat):Int)])
    rw[q1,q2]
theorem Zcl:FnScope ["self", "some", "others"] ["self", "some", "others"] (Zag ZaW):=‹2›
theorem Zmn(h:HereM K CR "sum_of_products" "Rests.sum_of_products" ZaW) (cl:Cls K CR) (nP:NoAttr K CR "prime") (Tz:mg "zip" = none) (Ts:mg "sum" = none):HasM P w K mg base CR "sum_of_products" 3 ["self", "some", "others"] [] (ZgE CR):=by
  refine h.hasM (λf fd F=>F.binds λ_ _ _ _ _ _ us hl=>by obtain ⟨_,_,_,rfl⟩:=Zdq hl; exact rfl) λf fd F=>F.ok Zcl (λvs H Q E h=>?_) (λcdv A outer s H vs Q E hr h=>?_)
  · obtain ⟨_,_,_,_,_,_,_,_,_,rfl,_⟩:=h
    rfl
  obtain ⟨p,hp,sr,r1,r2,xs,ys,f1,f2,rfl,⟨dx,hs⟩,h1,h2,al1,al2,lfg,l100,k⟩:=h
  refine ⟨_,(Zae (Zaj (Zal ZaS (Zam (ZlP rfl) (by rfl) Ts boot_sum (Zaa (Za2 ["one", "other"] [] rfl (Zha (by rfl) Tz (Zaa (pv 1) (Zaa (pv 2) Zac))) (by exact λ_ _ _ _=>(ZhK (n:=2) K rfl rfl (Zby (Zau (i:=0) (show (["one", "other"]:List Str).Nodup by decide +kernel) rfl (Or.inl rfl)) (Zby (Zau (i:=1) (show (["one", "other"]:List Str).Nodup by decide +kernel) rfl (Or.inl rfl)) ZeT)))) (by exact λ_ _ _ _=>(Zal ZaB (pv 0) (pv 1))) trivial) Zac)) (ZeZ (pv 0) rfl)))),?_⟩
  have lx:=al1.1
  have ly:=al2.1
  have h2':=hp.two
  refine ⟨_,rfl,_,rfl,r1,r2,rfl,⟨_,SqL.of h1⟩,⟨_,SqL.of h2⟩,?_⟩
  refine Ze6 (K:=K) (a:=r1) (b:=r2) (xs:=xs) (ys:=ys) (λi zs H2=>Same H H2/\∃ms:List Int,zs=ms.map V.int/\(ms.sum%p:Int)=((Fin.val (Zhm f1 f2 i:Fin p):Nat):Int)) ⋯ ⟨Same.refl H,[],rfl,?_⟩ (λi zs H2 q=>⟨SqL.of (q.1 _ _ h1),SqL.of (q.1 _ _ h2)⟩) ?_ ?_
  · show (0:Int)%p=((Fin.val (K0 (.r p hp)):Nat):Int)
    rw[ZeK]; simp
  · rintro i u v Tp zs H2 hx hy hl nT ⟨S,ms,rfl,es⟩
    obtain ⟨x,hx',e1⟩:=al1.get hx
    obtain ⟨y,hy',e2⟩:=al2.get hy
    have e1:u = .int (Fin.val (x:Fin p)):=e1
    have e2:v = .int (Fin.val (y:Fin p)):=e2
    subst e1 e2
    have ST:=Zah nT (.tup [.int (Fin.val (x:Fin p)),.int (Fin.val (y:Fin p))])
    generalize upd H2 Tp (.tup [.int (Fin.val (x:Fin p)),.int (Fin.val (y:Fin p))])=H3 at *
    refine ⟨_,rfl,_,rfl,_,_,rfl,rfl,ZbF (Za0 hp x) (Za0 hp y),S.trans ST,ms++[(Fin.val (x:Fin p):Int)*Fin.val (y:Fin p)],by simp,?_⟩
    have ed:(Zhm f1 f2 (i+1):Fin p)=(Zhm f1 f2 i:Fin p)+(x:Fin p)*(y:Fin p):=ZkU hx' hy'
    rw[ed,Fin.val_add,Fin.val_mul,List.sum_append]
    simp only[List.sum_cons,List.sum_nil,Int.add_zero]
    rw[Int.add_emod,es,Wb,U0,Wb,Wl,Int.add_emod (Fin.val (Zhm f1 f2 i:Fin p):Int)]
    first | done | simp
  · rintro zs H2 hl ⟨S,ms,rfl,es⟩ D hD
    have S4:=S.trans (Zah hD (.lst (ms.map V.int)))
    refine ⟨D,_,rfl,SqL.of Zaf,?_⟩
    refine ⟨_,rfl,sr,CR,dx,_,_,rfl,S4 _ _ hs,cl,nP,ZbT p,_,_,rfl,rfl,(show (p:Int)≠0 by omega),?_⟩
    show Q (V.int (ms.sum.fmod p)) _
    refine k _ _ S4 ?_
    show V.int (ms.sum.fmod p)=V.int ((Fin.val (Zhm f1 f2 f1.length:Fin p):Nat):Int)
    rw[Qy _ ⋯,es]
    congr 4
    omega
theorem Zmo(kd:Kd K mg CF CR)(hF:HasM P w K mg base CF "sum_of_products" 3 ["self", "some", "others"] [] (ZgD CF)) (hR:HasM P w K mg base CR "sum_of_products" 3 ["self", "some", "others"] [] (ZgE CR)):ZkW P w K mg base CF CR:=by
  intro κ H s hk
  cases κ with
  | q =>
    obtain ⟨dx,h⟩:=hk
    refine ⟨CF,dx,[],_,_,_,h,kd.clF,hF,rfl,rfl,λH' r1 r2 xs ys f g D E M N Q S h1 h2 a1 a2 lfg l100 qf qg d0 dl e0 el ml nl k=>?_⟩
    obtain ⟨w1,v1⟩:=ZmJ d0 dl ml qf
    obtain ⟨w2,v2⟩:=ZmJ e0 el nl qg
    exact ⟨s,r1,r2,xs,ys,f,g,(D:Int),(E:Int),rfl,⟨dx,S _ _ h⟩,h1,h2,a1,a2,lfg,l100,w1,w2,⋯,by rw[Qt]; exact dl,v1,⋯,by rw[Qt]; exact el,v2,k⟩
  | r p hp =>
    obtain ⟨dx,h⟩:=hk
    exact ⟨CR,dx,fsR p,_,_,_,h,kd.clR,hR,Zds _ ∅,rfl,λH' r1 r2 xs ys f g D E M N Q S h1 h2 a1 a2 lfg l100 qf qg d0 dl e0 el ml nl k=>⟨p,hp,s,r1,r2,xs,ys,f,g,rfl,⟨dx,S _ _ h⟩,h1,h2,a1,a2,lfg,l100,k⟩⟩
end
end My
namespace My
open PySem L2 PyProof.Rows
section
variable{κ:KX}
noncomputable def Zhw(B:List (List κ.F))(j:Nat):List κ.F:=B.map λr=>r.getD j 0
noncomputable def Zfx(B:List (List κ.F))(m:Nat):List (List κ.F):=(List.range m).map (Zhw B)
noncomputable def mulT(A B:List (List κ.F))(m:Nat):List (List κ.F):=A.map λr=>(Zfx B m).map λc=>Zjy c r
noncomputable def ZgF(c:κ.F)(A:List (List κ.F)):List (List κ.F):=A.map λr=>r.map (c * ·)
noncomputable def Zqi(A B:List (List κ.F)):List (List κ.F):=List.zipWith (λf g=>List.zipWith (· + ·) f g) A B
theorem ZdZ(B:List (List κ.F))(j:Nat):(Zhw B j).length=B.length:=by unfold Zhw; simp
theorem Zhn(B:List (List κ.F))(m:Nat):(Zfx B m).length=m:=by unfold Zfx; simp
theorem ZkX(B:List (List κ.F))(m:Nat):Wid B.length (Zfx B m):=λf hf=>by
  unfold Zfx at hf
  obtain ⟨j,_,rfl⟩:=Qi.mp hf
  exact ZdZ _ _
theorem ZeP(A B:List (List κ.F))(m:Nat):(mulT A B m).length=A.length:=by unfold mulT; simp
theorem Zd0(A B:List (List κ.F))(m:Nat):Wid m (mulT A B m):=λf hf=>by
  unfold mulT at hf
  obtain ⟨r,_,rfl⟩:=Qi.mp hf
  rw[Q1,Zhn]
theorem ZcC(c:κ.F)(A:List (List κ.F)):(ZgF c A).length=A.length:=by unfold ZgF; simp
theorem ZgG{m:Nat}{A:List (List κ.F)}(h:Wid m A)(c:κ.F):Wid m (ZgF c A):=λf hf=>by
  unfold ZgF at hf
  obtain ⟨r,hr,rfl⟩:=Qi.mp hf
  rw[Q1]; exact h r hr
theorem ZiR{Pr:κ.F->Prop}{B:List (List κ.F)}{m j:Nat}(wd:Wid m B)(hj:j<m)(h:AllR Pr B):∀x∈Zhw B j,Pr x:=λx hx=>by
  unfold Zhw at hx
  obtain ⟨r,hr,rfl⟩:=Qi.mp hx
  exact h r hr _ (by
    have:=wd r hr
    rw[Q3,Q2 (show j<r.length by omega)]; exact Qe _)
end
structure TabL (κ:KX) (H:Hp) (a:Addr) (rs:List Addr) (R:List (List κ.F)) (m:Nat):Prop where
  l:H a=some (.lst (rs.map V.ref))
  r:RowsX κ H rs R
  w:Wid m R
  n1:1<=R.length
  n9:R.length<=100
  m9:m<=100
theorem TabL.same{κ:KX}{H H':Hp}{a:Addr}{rs:List Addr}{R:List (List κ.F)}{m:Nat}(h:TabL κ H a rs R m)(S:Same H H'):TabL κ H' a rs R m:=⟨S _ _ h.l,h.r.same S,h.w,h.n1,h.n9,h.m9⟩
theorem TabL.fst{κ:KX}{H:Hp}{a:Addr}{rs:List Addr}{R:List (List κ.F)}{m:Nat}(h:TabL κ H a rs R m):∃a0 xs f,rs[0]?=some a0/\R[0]?=some f/\H a0=some (.lst xs)/\AllG (NR κ H) xs f/\xs.length=m:=by
  have n1:=h.n1
  have hf:R[0]?=some R[0]:=Q2 ⋯
  obtain ⟨a0,ha⟩:=Zaw hf h.r.1.symm
  obtain ⟨xs,hx,al⟩:=h.r.2 0 a0 _ ha hf
  exact ⟨a0,xs,_,ha,hf,hx,al,by rw[al.1]; exact h.w _ (Qe _)⟩
inductive ZcD (vs:List V) (H:Hp) (Q:VK) (zE:XK):Prop
  | mk (κ:KX) (a:Addr) (rs:List Addr) (R:List (List κ.F)) (m j:Nat) (_:vs=[.ref a,.int (j:Int)]) (_:TabL κ H a rs R m) (_:j<m) (_:∀(H':Hp) (D:Addr) (ys:List V),Same H H'->H D=none->H' D=some (.lst ys)->AllG (NR κ H') ys (Zhw R j)->Q (.ref D) H'):ZcD vs H Q zE
inductive Zeq (vs:List V) (H:Hp) (Q:VK) (zE:XK):Prop
  | mk (κ:KX) (a:Addr) (rs:List Addr) (R:List (List κ.F)) (m:Nat) (_:vs=[.ref a]) (_:TabL κ H a rs R m) (_:∀(H':Hp) (D:Addr) (rs':List Addr),Same H H'->H' D=some (.lst (rs'.map V.ref))->RowsX κ H' rs' (Zfx R m)->Q (.ref D) H'):Zeq vs H Q zE
inductive Zer (CF CR:Addr) (vs:List V) (H:Hp) (Q:VK) (zE:XK):Prop
  | mk (κ:KX) (s a:Addr) (cv:V) (c:κ.F) (rs:List Addr) (R:List (List κ.F)) (m:Nat) (_:vs=[.ref s,cv,.ref a]) (_:KdX CF CR κ H s) (_:NR κ H cv c) (_:B1 κ c) (_:TabL κ H a rs R m) (_:AllR (B1 κ) R) (_:∀(H':Hp) (D:Addr) (rs':List Addr),Same H H'->TabL κ H' D rs' (ZgF c R) m->(∀a∈rs',H a=none)->H D=none->Q (.ref D) H'):Zer CF CR vs H Q zE
inductive ZcE (CF CR:Addr) (vs:List V) (H:Hp) (Q:VK) (zE:XK):Prop
  | mk (κ:KX) (s a c:Addr) (rs:List Addr) (R:List (List κ.F)) (xs:List V) (f:List κ.F) (D E M N:Nat) (_:vs=[.ref s,.ref a,.ref c]) (_:KdX CF CR κ H s) (_:H a=some (.lst (rs.map V.ref))) (_:RowsX κ H rs R) (_:Wid f.length R) (_:R.length<=100) (_:f.length<=100) (_:H c=some (.lst xs)) (_:AllG (NR κ H) xs f) (_:AllR (QN κ (D:Int) M) R) (_:(∀x∈f,QN κ (E:Int) N x)) (_:0<D) (_:D<=10^200) (_:0<E) (_:E<=10^200) (_:M<=10^500) (_:N<=10^500) (_:∀(H':Hp) (D:Addr) (ys:List V),Same H H'->H' D=some (.lst ys)->AllG (NR κ H') ys (R.map λr=>Zjy r f)->Q (.ref D) H'):ZcE CF CR vs H Q zE
inductive Zb0 (CF CR:Addr) (vs:List V) (H:Hp) (Q:VK) (zE:XK):Prop
  | mk (κ:KX) (s a b:Addr) (rs rs2:List Addr) (R R2:List (List κ.F)) (m:Nat) (D E M N:Nat) (_:vs=[.ref s,.ref a,.ref b]) (_:KdX CF CR κ H s) (_:TabL κ H a rs R R2.length) (_:TabL κ H b rs2 R2 m) (_:AllR (QN κ (D:Int) M) R) (_:AllR (QN κ (E:Int) N) R2) (_:0<D) (_:D<=10^200) (_:0<E) (_:E<=10^200) (_:M<=10^500) (_:N<=10^500) (_:∀(H':Hp) (D:Addr) (rs':List Addr),Same H H'->TabL κ H' D rs' (mulT R R2 m) m->Q (.ref D) H'):Zb0 CF CR vs H Q zE
inductive ZbJ (CF CR:Addr) (vs:List V) (H:Hp) (Q:VK) (zE:XK):Prop
  | mk (κ:KX) (s a:Addr) (rs:List Addr) (R:List (List κ.F)) (m:Nat) (D M:Nat) (_:vs=[.ref s,.ref a]) (_:KdX CF CR κ H s) (_:TabL κ H a rs R m) (_:AllR (QN κ (D:Int) M) R) (_:0<D) (_:D<=10^140) (_:M<=10^500) (_:∀(H':Hp) (tp D':Addr) (rs':List Addr) (A:Int) (x:κ.F),Same H H'->H' tp=some (.tup [.ref D',.int A])->ZmG κ R.flatten A->NumV κ A x->TabL κ H' D' rs' (ZgF x R) m->Q (.ref tp) H'):ZbJ CF CR vs H Q zE
theorem ZoJ{κ:KX}{D M:Nat}(hD:0<D){x:κ.F}(h:QN κ (D:Int) M x):DvB κ (D:Int) x:=by
  cases κ with
  | r p hp=>exact trivial
  | q =>
    obtain ⟨X,e,_⟩:=h
    show ((Rat.den x:Nat):Int) ∣ D
    have e:x=Rat.divInt X D:=e
    rw[e]
    exact (ZbU X (show (0:Int)<(D:Int) by omega)).1
theorem ZkY{κ:KX}{D M:Nat}(hD:0<D)(lD:D<=10^200)(lM:M<=10^500){x:κ.F}(h:QN κ (D:Int) M x):B1 κ x:=by
  have l:(10:Nat)^500<2^3000:=Q5 (show 10^500<2^2000 by decide) (Qa ∅ ∅)
  have l2:(10:Nat)^200<2^3000:=Q5 (show 10^200<2^1000 by decide) (Qa ∅ ∅)
  exact h.b1 ⋯ (by rw[Qt]; omega) ⋯
theorem ZkZ{κ:KX}{D M:Nat}(hD:0<D){f:List κ.F}{A:Int}(h:∀x∈f,QN κ (D:Int) M x)(b:ZmG κ f A):0<A/\A.natAbs<=D:=by
  cases κ with
  | r p hp =>
    have b:A=1:=b
    subst b
    exact ⟨∅,hD⟩
  | q =>
    obtain ⟨b0,b1,b2⟩:=b
    refine ⟨b0,?_⟩
    have:=ZaZ (b2 (D:Int) λx hx=>ZoJ (κ:=.q) hD (h x hx)) ⋯
    rw[Qt] at this
    exact this
theorem ZnO{κ:KX}{A:Int}(h:A.natAbs<=10^140):∃x:κ.F,NumV κ A x:=by
  cases κ with
  | q=>obtain ⟨x,h1,h2⟩:=Zkv (n:=A) (d:=1) ⟨∅,by rw[Int.gcd_one]⟩; exact ⟨x,h1,⋯⟩
  | r p hp =>
    have h2:=hp.two
    have a:=Wd A (show (p:Int)≠0 by omega)
    have b:=Wt A (show 0<(p:Int) by omega)
    exact ⟨(⟨(A%p).toNat,⋯⟩:Fin p),h,by show (((A%p).toNat:Nat):Int)=_; omega⟩
theorem ZgH{κ:KX}{A:Int}{x:κ.F}(h:NumV κ A x):QN κ 1 A.natAbs x:=by
  cases κ with
  | r p hp=>exact trivial
  | q =>
    refine ⟨A,?_,Q4 _⟩
    show (x:Rat)=_
    have e1:Rat.num x=A:=h.1
    have e2:Rat.den x=1:=h.2
    rw[<-Qs x,e1,e2]; rfl
end My
namespace My
open PySem L2 PyProof.Rows
section
variable{P:Program}{w:World}{K:PySem.W.Frag}{mg:Str->Option Value}{base:Heap}{CF CR cF:Addr}
theorem Zho:FnScope ["table", "place"] ["table", "place"] (Zag Zdy):=‹2›
theorem ZgI(h:Here K mg "column_at" Zdy):Has P w K mg base "column_at" 1 ["table", "place"] ZcD:=by
  refine h.has (λf fd F=>F.binds λ_ _ _ _ _ _ us hl=>by obtain ⟨_,_,rfl⟩:=ZdM hl; exact rfl) λf fd F=>F.ok Zho (λvs H Q E h=>?_) (λcdv A outer s H vs Q E hr h=>?_)
  · obtain ⟨_,_,_,_,_,_,rfl,_⟩:=h
    rfl
  obtain ⟨κ,a,rs,R,m,j,rfl,tb,jm,k⟩:=h
  refine ⟨_,(Zae (Zaj (Za2 ["row"] [(1, "place")] rfl (ZaI (pv 0)) (by exact λ_ _ _ _=>(Zau (i:=0) (show (["row", "place"]:List Str).Nodup by decide +kernel) rfl (Or.inl rfl))) (by exact λ_ _ _ _=>(Zar (ZlN K rfl) (pv 0) (pv 1) (λ_ _=>rfl))) ⟨⟨rfl,rfl,Or.inl rfl⟩,trivial⟩))),?_⟩
  have lr:=tb.r.1
  have n9:=tb.n9
  refine ⟨_,rfl,a,rfl,⟨_,SqL.of tb.l⟩,?_⟩
  refine ZaG (K:=K) (a:=a) (xs:=rs.map V.ref) (λi ys H2=>H2=H/\AllG (NR κ H) ys ((R.take i).map λr=>r.getD j 0)) (by rw[Q1]; omega) ⟨rfl,.nil⟩ (λi ys H2 _ q=>by rw[q.1]; exact SqL.of tb.l) ?_ ?_
  · rintro i x ys H2 hx hl ⟨rfl,e⟩
    obtain ⟨b,hb,rfl⟩:=Zax hx
    obtain ⟨f,hf⟩:=Zaw hb lr
    obtain ⟨zs,hz,al⟩:=tb.r.2 i b f hb hf
    obtain ⟨v,hv,nv⟩:=Zh9 al (i:=j) (by rw[tb.w f (Q9 hf)]; exact jm)
    refine ⟨_,rfl,_,rfl,b,_,_,v,rfl,rfl,SqL.of hz,ZbE hv,rfl,?_⟩
    rw[Qm,hf,Qj]
    exact e.append (.one nv)
  · rintro ys H2 hl ⟨rfl,e⟩ D nD
    rw[Q1,lr,W6] at e
    have SD:=Zah nD (.lst ys)
    exact k _ D ys SD nD Zaf (e.mono λ_ _ n=>n.same SD)
theorem Zk0:FnScope ["table"] ["table"] (Zag Zf8):=‹2›
theorem Zjz(h:Here K mg "turned" Zf8) (T:Nm mg) (h_column_at:Has P w K mg base "column_at" 1 ["table", "place"] ZcD):Has P w K mg base "turned" 2 ["table"] Zeq:=by
  refine h.has (λf fd F=>F.binds λ_ _ _ _ _ _ us hl=>by obtain ⟨_,rfl⟩:=Zlp hl; exact rfl) λf fd F=>F.ok Zk0 (λvs H Q E h=>?_) (λcdv A outer s H vs Q E hr h=>?_)
  · obtain ⟨_,_,_,_,_,rfl,_⟩:=h
    rfl
  obtain ⟨κ,a,rs,R,m,rfl,tb,k⟩:=h
  refine ⟨_,(Zae (Zaj (Za2 ["place"] [(0, "table")] rfl (ZaN (by rfl) T.range (Zaa (Zam Zai (by rfl) T.len boot_len (Zaa (Zar Zav (pv 0) Zad (λ_ _=>rfl)) Zac)) Zac)) (by exact λ_ _ _ _=>(Zau (i:=0) (show (["place", "table"]:List Str).Nodup by decide +kernel) rfl (Or.inl rfl))) (by exact λ_ _ _ _=>(Zao h_column_at hr (by rfl) (Zaa (pv 1) (Zaa (pv 0) Zac)))) ⟨⟨rfl,rfl,Or.inl rfl⟩,trivial⟩))),?_⟩
  obtain ⟨a0,xs,f,ha,hf,hx,al,lx⟩:=tb.fst
  have m9:=tb.m9
  refine ⟨_,rfl,a,_,0,_,rfl,rfl,SqL.of tb.l,Zbq (i:=0) ha,a0,_,rfl,.inl (SqL.of hx),(xs.length:Int),rfl,⋯,⋯,?_⟩
  rw[Q7,lx]
  refine ZbP (lo:=0) (n:=m) (λq ys H4=>Same H H4/\∃ds:List Addr,ys=ds.map V.ref/\RowsX κ H4 ds ((List.range q).map (Zhw R))) ⋯ ⟨Same.refl _,[],rfl,.nil⟩ ?_ ?_
  · rintro q ys H4 hq _ ⟨S4,ds,rfl,rx⟩
    refine ⟨_,rfl,_,rfl,κ,a,rs,R,m,q,(by rw[Qr]; rfl),tb.same S4,hq,λH5 D zs S5 nD hD e5=>⟨S4.trans S5,ds++[D],by simp,?_⟩⟩
    rw[Ur,Qj]
    exact (rx.same S5).snoc hD e5
  · rintro ys H4 _ ⟨S4,ds,rfl,rx⟩ D nD
    have SD:=Zah nD (.lst (ds.map V.ref))
    exact k _ D ds (S4.trans SD) Zaf (rx.same SD)
theorem Zhp:FnScope ["kind", "number", "table"] ["kind", "number", "table"] (Zag ZeI):=‹2›
theorem ZjA(h:Here K mg "scaled" ZeI) (h_scaled_row:Has P w K mg base "scaled_row" 3 ["kind", "number", "row"] (Zbc CF CR)):Has P w K mg base "scaled" 4 ["kind", "number", "table"] (Zer CF CR):=by
  refine h.has (λf fd F=>F.binds λ_ _ _ _ _ _ us hl=>by obtain ⟨_,_,_,rfl⟩:=Zdq hl; exact rfl) λf fd F=>F.ok Zhp (λvs H Q E h=>?_) (λcdv A outer s H vs Q E hr h=>?_)
  · obtain ⟨_,_,_,_,_,_,_,_,rfl,_⟩:=h
    rfl
  obtain ⟨κ,sk,a,cv,c,rs,R,m,rfl,hk,nc,bc,tb,bR,k⟩:=h
  refine ⟨_,(Zae (Zaj (Za2 ["row"] [(0, "kind"),(1, "number")] rfl (ZaI (pv 2)) (by exact λ_ _ _ _=>(Zau (i:=0) (show (["row", "kind", "number"]:List Str).Nodup by decide +kernel) rfl (Or.inl rfl))) (by exact λ_ _ _ _=>(Zao h_scaled_row hr (by rfl) (Zaa (pv 1) (Zaa (pv 2) (Zaa (pv 0) Zac))))) ⟨⟨rfl,rfl,Or.inl rfl⟩,⟨⟨rfl,rfl,Or.inl rfl⟩,trivial⟩⟩))),?_⟩
  have lr:=tb.r.1
  have n9:=tb.n9
  have m9:=tb.m9
  refine ⟨_,rfl,a,rfl,⟨_,SqL.of tb.l⟩,?_⟩
  refine ZaG (K:=K) (a:=a) (xs:=rs.map V.ref) (λi ys H2=>Same H H2/\∃ds:List Addr,ys=ds.map V.ref/\RowsX κ H2 ds ((R.take i).map λr=>r.map (c * ·))/\∀d∈ds,H d=none) (by rw[Q1]; omega) ⟨Same.refl _,[],rfl,.nil,λd h=>nomatch h⟩ (λi ys H2 _ q=>SqL.of (q.1 _ _ tb.l)) ?_ ?_
  · rintro i x ys H2 hx hl ⟨S2,ds,rfl,rx,fr⟩
    obtain ⟨b,hb,rfl⟩:=Zax hx
    obtain ⟨f,hf⟩:=Zaw hb lr
    obtain ⟨zs,hz,al⟩:=tb.r.2 i b f hb hf
    have mf:=Q9 hf
    refine ⟨_,rfl,_,rfl,_,rfl,κ,sk,b,cv,c,zs,f,rfl,hk.same S2,nc.same S2,S2 _ _ hz,al.mono (λ_ _ n=>n.same S2),bc,bR f mf,by rw[tb.w f mf]; omega,λH3 D ws S3 nD hD e3=>⟨S2.trans S3,ds++[D],by simp,?_,λd hd=>?_⟩⟩
    · rw[Qm,hf,Qj]
      exact (rx.same S3).snoc hD e3
    · rcases Qf.mp hd with q | q
      · exact fr d q
      · rw[Q6.mp q]; exact S2.free nD
  · rintro ys H2 hl ⟨S2,ds,rfl,rx,fr⟩ D nD
    rw[Q1,lr,W6] at rx
    have SD:=Zah nD (.lst (ds.map V.ref))
    exact k _ D ds (S2.trans SD) ⟨Zaf,rx.same SD,ZgG tb.w c,by rw[ZcC]; exact tb.n1,by rw[ZcC]; exact tb.n9,tb.m9⟩ fr (S2.free nD)
theorem Zhq:FnScope ["kind", "table", "column"] ["kind", "table", "column"] (Zag Zdz):=‹2›
theorem ZgJ(h:Here K mg "sums_with" Zdz) (md:ZkW P w K mg base CF CR):Has P w K mg base "sums_with" 4 ["kind", "table", "column"] (ZcE CF CR):=by
  refine h.has (λf fd F=>F.binds λ_ _ _ _ _ _ us hl=>by obtain ⟨_,_,_,rfl⟩:=Zdq hl; exact rfl) λf fd F=>F.ok Zhq (λvs H Q E h=>?_) (λcdv A outer s H vs Q E hr h=>?_)
  · obtain ⟨_,_,_,_,_,_,_,_,_,_,_,_,rfl,_⟩:=h
    rfl
  obtain ⟨κ,sk,a,c,rs,R,xs,f,D,E',M,N,rfl,hk,hA,rx,wd,n9,m9,hC,al,qR,qf,d0,d1,e0,e1,m1,n1,k⟩:=h
  refine ⟨_,(Zae (Zaj (Za2 ["row"] [(0, "kind"),(2, "column")] rfl (ZaI (pv 1)) (by exact λ_ _ _ _=>(Zau (i:=0) (show (["row", "kind", "column"]:List Str).Nodup by decide +kernel) rfl (Or.inl rfl))) (by exact λ_ _ _ _=>(Ze5 ⟨rfl,rfl,rfl,rfl,rfl⟩ (pv 1) hr (Zaa (pv 0) (Zaa (pv 2) Zac)))) ⟨⟨rfl,rfl,Or.inl rfl⟩,⟨⟨rfl,rfl,Or.inl rfl⟩,trivial⟩⟩))),?_⟩
  have lr:=rx.1
  refine ⟨_,rfl,a,rfl,⟨_,SqL.of hA⟩,?_⟩
  refine ZaG (K:=K) (a:=a) (xs:=rs.map V.ref) (λi ys H2=>Same H H2/\AllG (NR κ H2) ys ((R.take i).map λr=>Zjy r f)) (by rw[Q1]; omega) ⟨Same.refl _,.nil⟩ (λi ys H2 _ q=>SqL.of (q.1 _ _ hA)) ?_ ?_
  · rintro i x ys H2 hx hl ⟨S2,e⟩
    obtain ⟨b,hb,rfl⟩:=Zax hx
    obtain ⟨g,hg⟩:=Zaw hb lr
    obtain ⟨zs,hz,al2⟩:=rx.2 i b g hb hg
    have mg':=Q9 hg
    have lg:=wd g mg'
    obtain ⟨Cd,dxd,fsd,psd,dvd,spd,k1,k2,k3,k4,rfl,k5⟩:=md κ H2 sk (hk.same S2)
    refine ⟨_,rfl,sk,Cd,dxd,fsd,psd,_,spd,rfl,k1,k2,k3.mono ∅,k4,_,rfl,_,rfl,k5 H2 b c zs xs g f D E' M N _ (Same.refl _) (S2 _ _ hz) (S2 _ _ hC) (al2.mono λ_ _ n=>n.same S2) (al.mono λ_ _ n=>n.same S2) lg ⋯ (qR g mg') qf d0 d1 e0 e1 m1 n1 λH3 v S3 nv=>⟨S2.trans S3,?_⟩⟩
    rw[Qm,hg,Qj]
    exact (e.mono λ_ _ n=>n.same S3).append (.one nv)
  · rintro ys H2 hl ⟨S2,e⟩ Dd nD
    rw[Q1,lr,W6] at e
    have SD:=Zah nD (.lst ys)
    exact k _ Dd ys (S2.trans SD) Zaf (e.mono λ_ _ n=>n.same SD)
theorem sc_times_table:FnScope ["kind", "A", "B", "columns"] ["kind", "A", "B"] (Zag Zcu):=‹2›
theorem Zfy(h:Here K mg "times_table" Zcu) (T:Nm mg) (c_NoFit:ExcC K mg "NoFit" cF) (h_turned:Has P w K mg base "turned" 4 ["table"] Zeq) (h_sums_with:Has P w K mg base "sums_with" 4 ["kind", "table", "column"] (ZcE CF CR)):HasX P w K mg base "times_table" 5 ["kind", "A", "B"] (Zb0 CF CR):=by
  refine h.hasX (λf fd F=>F.binds λ_ _ _ _ _ _ us hl=>by obtain ⟨_,_,_,rfl⟩:=Zdq hl; exact rfl) λf fd F=>F.okx sc_times_table (λvs H Q E h=>?_) (λcdv A outer s H vs Q E hr h=>?_)
  · obtain ⟨_,_,_,_,_,_,_,_,_,_,_,_,_,rfl,_⟩:=h
    rfl
  obtain ⟨κ,sk,a,b,rs,rs2,R,R2,m,D,E',M,N,rfl,hk,ta,tb,qR,qR2,d0,d1,e0,e1,m1,n1,k⟩:=h
  have nd:=sc_times_table.nd
  refine ⟨_,(Zab (ZaC (Zaq Zdv (Zam Zai (by rfl) T.len boot_len (Zaa (Zar Zav (pv 1) Zad (λ_ _=>rfl)) Zac)) (Zam Zai (by rfl) T.len boot_len (Zaa (pv 2) Zac)) (Zap _)) (Zae (Zcs c_NoFit Ze3 rfl (by rfl) (Zaa Zbe Zac))) Zat)
    (Zab (Zak (i:=3) nd rfl (Or.inr rfl) (Zao h_turned hr (by rfl) (Zaa (pv 2) Zac)))
    (Zae (Zaj (Za2 ["row"] [(0, "kind"),(3, "columns")] rfl (ZaI (pv 1)) (by exact λ_ _ _ _=>(Zau (i:=0) (show (["row", "kind", "columns"]:List Str).Nodup by decide +kernel) rfl (Or.inl rfl))) (by exact λ_ _ _ _=>(Zao h_sums_with hr (by rfl) (Zaa (pv 1) (Zaa (pv 2) (Zaa (pv 0) Zac))))) ⟨⟨rfl,rfl,Or.inl rfl⟩,⟨⟨rfl,rfl,Or.inl rfl⟩,trivial⟩⟩))))),?_⟩
  have lr:=ta.r.1
  have lr2:=tb.r.1
  have n9:=ta.n9
  have n9b:=tb.n9
  have m9:=tb.m9
  obtain ⟨a0,xs,f,ha,hf,hx,al,lx⟩:=ta.fst
  refine ⟨_,rfl,a,_,0,_,rfl,rfl,SqL.of ta.l,Zbq (i:=0) ha,a0,_,rfl,.inl (SqL.of hx),_,rfl,b,_,rfl,.inl (SqL.of tb.l),rfl,_,rfl,?_⟩
  rw[Q1,lx,lr2]
  refine ZcO (λz=>absurd rfl z) (λ_=>?_)
  refine ⟨_,rfl,κ,b,rs2,R2,m,rfl,tb,λH1 cb cs S1 hcb rcb=>?_⟩
  refine ⟨_,rfl,a,rfl,⟨_,SqL.of (S1 _ _ ta.l)⟩,?_⟩
  refine ZaG (K:=K) (a:=a) (xs:=rs.map V.ref) (λi ys H2=>Same H1 H2/\∃ds:List Addr,ys=ds.map V.ref/\RowsX κ H2 ds ((R.take i).map λr=>(Zfx R2 m).map λc=>Zjy c r)) (by rw[Q1]; omega) ⟨Same.refl _,[],rfl,.nil⟩ (λi ys H2 _ q=>SqL.of ((S1.trans q.1) _ _ ta.l)) ?_ ?_
  · rintro i x ys H2 hx hl ⟨S2,ds,rfl,rx⟩
    obtain ⟨r1,hr1,rfl⟩:=Zax hx
    obtain ⟨g,hg⟩:=Zaw hr1 lr
    obtain ⟨zs,hz,al2⟩:=ta.r.2 i r1 g hr1 hg
    have mg':=Q9 hg
    have lg:=ta.w g mg'
    have S12:=S1.trans S2
    refine ⟨_,rfl,_,rfl,_,rfl,κ,sk,cb,r1,cs,Zfx R2 m,zs,g,E',D,N,M,rfl,hk.same S12,S2 _ _ hcb,rcb.same S2,(by rw[lg]; exact ZkX R2 m),by rw[Zhn]; omega,⋯,S12 _ _ hz,al2.mono (λ_ _ n=>n.same S12),?_,qR g mg',e0,e1,d0,d1,n1,m1,λH3 Dd ws S3 hD e3=>⟨S2.trans S3,ds++[Dd],by simp,?_⟩⟩
    · intro q hq x hx
      unfold Zfx at hq
      obtain ⟨j,hj,rfl⟩:=Qi.mp hq
      exact ZiR tb.w (List.mem_range.mp hj) qR2 x hx
    · rw[Qm,hg,Qj]
      exact (rx.same S3).snoc hD e3
  · rintro ys H2 hl ⟨S2,ds,rfl,rx⟩ Dd nD
    rw[Q1,lr,W6] at rx
    have SD:=Zah nD (.lst (ds.map V.ref))
    exact k _ Dd ds (S1.trans (S2.trans SD)) ⟨Zaf,rx.same SD,Zd0 R R2 m,by rw[ZeP]; exact ta.n1,by rw[ZeP]; exact n9,m9⟩
theorem sc_evenly_freed:FnScope ["kind", "table", "numbers", "row", "bottom"] ["kind", "table"] (Zag Zcb):=‹2›
theorem ZeD(h:Here K mg "evenly_freed" Zcb) (mn:ZdF P w K mg base CF CR) (mb:ZhZ P w K mg base CF CR) (h_scaled:Has P w K mg base "scaled" 4 ["kind", "number", "table"] (Zer CF CR)):Has P w K mg base "evenly_freed" 5 ["kind", "table"] (ZbJ CF CR):=by
  refine h.has (λf fd F=>F.binds λ_ _ _ _ _ _ us hl=>by obtain ⟨_,_,rfl⟩:=ZdM hl; exact rfl) λf fd F=>F.ok sc_evenly_freed (λvs H Q E h=>?_) (λcdv A outer s H vs Q E hr h=>?_)
  · obtain ⟨_,_,_,_,_,_,_,_,rfl,_⟩:=h
    rfl
  obtain ⟨κ,sk,a,rs,R,m,D,M,rfl,hk,ta,qR,d0,d1,m1,k⟩:=h
  have d2:D<=10^200:=Q0 d1 ∅
  have nd:=sc_evenly_freed.nd
  refine ⟨_,(Zab (Zak (i:=2) nd rfl (Or.inl rfl) (Zdp Zac))
    (Zab (Zbf PassesOwn.never rfl (ZaI (pv 1)) (Zau (i:=3) nd rfl (Or.inl rfl)) (Zae (ZaL (Zf3 PySem.F.plainAttrs_list PySem.F.slot_list_extend PySem.F.type_list_extend ZjT (pv 2) (Zaa (pv 3) Zac)))))
    (Zab (Zak (i:=4) nd rfl (Or.inl rfl) (Zbz (pv 0) hr (Zaa (pv 2) Zac)))
    (Zae (Zaj (ZaY (Zaa (Zao h_scaled hr (by rfl) (Zaa (pv 0) (Zaa (Zbl (pv 0) ZeC hr (Zaa (pv 4) Zac)) (Zaa (pv 1) Zac)))) (Zaa (pv 4) Zac)))))))),?_⟩
  have lr:=ta.r.1
  have n9:=ta.n9
  have m9:=ta.m9
  refine ⟨(by show 0<=sizeLine; decide),λnb nnb=>?_⟩
  have Sn:=Zah nnb (.lst [])
  have qn:=Zaf (H:=H) (a:=nb) (o:=.lst [])
  generalize upd H nb (.lst [])=H1 at *
  refine ⟨_,rfl,a,rfl,⟨_,SqL.of (Sn _ _ ta.l)⟩,?_⟩
  refine Zcn (xs:=rs.map V.ref) (λi σ H2=>∃(z3 z4:Option V) (ns:List V),σ=[some (.ref sk),some (.ref a),some (.ref nb),z3,z4]/\Same H H2/\H2 nb=some (.lst ns)/\AllG (NR κ H2) ns (R.take i).flatten/\ns.length<=i*m) ⟨_,_,[],rfl,Sn,qn,by rw[W9]; exact .nil,Qk _⟩ ?_ ?_ ?_
  · rintro i σ H2-⟨z3,z4,ns,rfl,S2,-⟩
    exact SqL.of (S2 _ _ ta.l)
  · rintro i v σ H2 hv ⟨z3,z4,ns,rfl,S2,hn,an,ln⟩
    obtain ⟨b,hb,rfl⟩:=Zax hv
    obtain ⟨f,hf⟩:=Zaw hb lr
    obtain ⟨zs,hz,al⟩:=ta.r.2 i b f hb hf
    have mf:=Q9 hf
    have hi:i<rs.length:=(Qw.mp hb).1
    have lz:zs.length=m:=by rw[al.1]; exact ta.w f mf
    have nm:i*m<=100*100:=Qz ⋯ m9
    refine ⟨_,rfl,.inl ⟨rfl,_,SqL.of hn⟩,_,rfl,nb,b,ns,zs,rfl,rfl,hn,S2 _ _ hz,Q0 (show ns.length+zs.length<=20000 by omega) ∅,?_⟩
    have O:Off [nb] H2 (upd H2 nb (.lst (ns++zs))):=Za4 (Same.refl H2)
    refine ⟨_,_,ns++zs,rfl,Off.same O S2 (λz hz=>by rw[Q6.mp hz]; exact nnb),Zaf,?_,by rw[Qd,Nat.succ_mul]; omega⟩
    rw[Qm,hf,List.flatten_append]
    show AllG _ _ ((R.take i).flatten++[f].flatten)
    rw[show [f].flatten=f by simp]
    exact (an.mono λ_ _ n=>n.off hn O).append (al.mono λ_ _ n=>(n.same S2).off hn O)
  · rintro σ H2 ⟨z3,z4,ns,rfl,S2,hn,an,ln⟩
    rw[Q1,lr,W6] at an
    have qF:∀x∈R.flatten,QN κ (D:Int) M x:=λx hx=>by
      obtain ⟨f,hf,hx⟩:=List.mem_flatten.mp hx
      exact qR f hf x hx
    obtain ⟨Cb,dxb,fsb,psb,dvb,spb,b1,b2,b3,b4,rfl,b5⟩:=mb κ H2 sk (hk.same S2)
    have bD:Bits 4000 (D:Int):=Bits.of (by rw[Qt]; exact Qc d2 (Q5 (show 10^200<2^1000 by decide) (Qa ∅ ∅)))
    refine ⟨_,rfl,sk,Cb,dxb,fsb,psb,_,spb,rfl,b1,b2,b3.mono ∅,b4,_,rfl,b5 nb ns _ (D:Int) _ hn an ⋯ bD (λx hx=>ZoJ d0 (qF x hx)) λA bA=>?_⟩
    obtain ⟨A0,Al⟩:=ZkZ d0 qF bA
    have A140:A.natAbs<=10^140:=Q0 (Q0 Al d1) ∅
    obtain ⟨x,nx⟩:=ZnO (κ:=κ) A140
    obtain ⟨Cn,dxn,fsn,psn,dvn,spn,k1,k2,k3,k4,rfl,k5⟩:=mn κ H2 sk (hk.same S2)
    refine ⟨_,rfl,_,rfl,sk,Cn,dxn,fsn,psn,_,spn,rfl,k1,k2,k3.mono ∅,k4,_,rfl,k5 H2 A x _ _ (Same.refl _) nx λv H3 S3 nv=>?_⟩
    have bx:B1 κ x:=ZkY (D:=1) ∅ ∅ (Q0 Al (Q0 d2 ∅)) (ZgH nx)
    refine ⟨_,rfl,κ,sk,a,v,x,rs,R,m,rfl,hk.same (S2.trans S3),nv,bx,ta.same (S2.trans S3),(λf hf y hy=>ZkY d0 d2 m1 (qR f hf y hy)),λH4 D' rs' S4 t4 _ _=>?_⟩
    refine ⟨_,rfl,(by show 2<=sizeLine; decide),λtp ntp=>?_⟩
    have St:=Zah ntp (.tup [.ref D',.int A])
    exact k _ tp D' rs' A x (S2.trans (S3.trans (S4.trans St))) Zaf bA nx (t4.same St)
end
end My
namespace My
open PySem L2 PyProof.Rows
section
variable{κ:KX}
theorem QN.neg{D:Int}{M:Nat}{x:κ.F}(h:QN κ D M x):QN κ D M (0-x):=by
  cases κ with
  | r p hp=>exact trivial
  | q =>
    obtain ⟨X,rfl,hX⟩:=h
    refine ⟨-X,?_,⋯⟩
    have:(0-Rat.divInt X D:Rat) = -Rat.divInt X D:=by grind
    show (0-Rat.divInt X D:Rat)=_
    rw[this,Rat.neg_divInt]
theorem QN.sub{D:Int}(hD:0<D){M N:Nat}{x y:κ.F}(h:QN κ D M x)(g:QN κ D N y):QN κ D (M+N) (x-y):=by
  have e:x-y=x+(0-y):=by grind
  rw[e]
  exact QN.add hD h g.neg
theorem ZmM{E N:Nat}(hE:0<E)(hN:0<N){c:κ.F}(h:QN κ (E:Int) N c)(hc:c≠0):∃a:Nat,0<a/\a<=N/\QN κ (a:Int) E (Fd.inv c):=by
  cases κ with
  | r p hp=>exact ⟨1,∅,hN,trivial⟩
  | q =>
    obtain ⟨X,e,hX⟩:=h
    have X0:X≠0:=λz=>hc (by rw[e,z]; exact Rat.zero_divInt _)
    have m:Rat.divInt X E*Rat.divInt E X=(1:Rat):=by
      rw[Wm]
      have:X*(E:Int)≠0:=Int.mul_ne_zero X0 ⋯
      have e2:(1:Rat)=Rat.divInt 1 1:=rfl
      have e3:(E:Int)*X≠0:=Int.mul_ne_zero ⋯ X0
      rw[e2,W5 e3 ∅]
      rw[U2,Uy,Ql]
    have ei:Fd.inv c=Rat.divInt E X:=by
      have h1:(c:Rat)*Rat.divInt E X=1:=by rw[e]; exact m
      exact (ZeL (α:=Rat) h1).symm
    refine ⟨X.natAbs,⋯,hX,?_⟩
    show ∃Y:Int,(Fd.inv c:Rat)=Rat.divInt Y (X.natAbs:Int)/\Y.natAbs<=E
    rcases Int.lt_or_gt_of_ne X0 with s | s
    · refine ⟨-(E:Int),?_,⋯⟩
      have:((X.natAbs:Nat):Int) = -X:=by omega
      rw[ei,this,W5 X0 ⋯,Wq,Int.neg_mul]
    · refine ⟨(E:Int),?_,⋯⟩
      have:((X.natAbs:Nat):Int)=X:=by omega
      rw[ei,this]
noncomputable def gs(G:List κ.F)(p k:Nat):κ.F:=if p<=k then G.getD (k-p) 0 else 0
theorem Zpr{F G:List κ.F}{i k:Nat}:∀j:Nat,pI F G i j k=if i<=k/\k<i+j then F.getD i 0*G.getD (k-i) 0 else 0
  | 0=>by rw[if_neg ⋯]; rfl
  | j+1=>by
    show pI F G i j k+(if i+j=k then F.getD i 0*G.getD j 0 else 0)=_
    rw[Zpr j]
    by_cases a:i+j=k
    · subst a
      rw[if_neg ⋯,if_pos rfl,if_pos ⋯,Nat.add_sub_cancel_left]; grind
    · rw[if_neg a]
      by_cases b:i<=k/\k<i+j
      · rw[if_pos b,if_pos ⋯]; grind
      · rw[if_neg b,if_neg ⋯]; exact ZnM
def Trm(F:List κ.F):Prop:=F.length=0\/F.getD (F.length-1) 0≠0
noncomputable def dI(G:List κ.F)(x:κ.F)(p a:Nat)(R:List κ.F):List κ.F:=(List.range R.length).map λk=>if p<=k/\k<p+a then R.getD k 0-x*G.getD (k-p) 0 else R.getD k 0
structure Dv (F G:List κ.F) (t:Nat) (qs R:List κ.F):Prop where
  lq:qs.length=t
  lr:R.length=F.length
  eq:∀k,F.getD k 0=pO (List.replicate (F.length+1-G.length-t) 0++qs.reverse) G (F.length+1-G.length) k+(if k<F.length-t then R.getD k 0 else 0)
  top:∀x,qs[0]?=some x->x=F.getD (F.length-1) 0*Fd.inv (G.getD (G.length-1) 0)
  fst:t=0->R=F
end
end My
namespace My
open PySem L2 PyProof.Rows
structure DvIn {κ:KX} (F G:List κ.F) (D E M N:Nat):Prop where
  lF:F.length<=100
  lG:G.length<=100
  tG:Trm G
  qF:∀x∈F,QN κ (D:Int) M x
  qG:∀x∈G,QN κ (E:Int) N x
  d0:0<D
  e0:0<E
  m0:0<M
  n0:0<N
  eN:E<=N
  bD:D*(N*E)^(F.length+1-G.length)<2^3000
  bM:M*(2*(E*N))^(F.length+1-G.length)<2^3000
  bE:E<2^3000
  bN:N<2^3000
structure DvOut {κ:KX} (F G:List κ.F) (D E M N a:Nat) (qs R:List κ.F) (r:Nat):Prop where
  dv:Dv F G (F.length+1-G.length) qs R
  lr:r<=(R.take (G.length-1)).length
  r0:∀j,r<=j->(R.take (G.length-1)).getD j 0=0
  r1:r=0\/(R.take (G.length-1)).getD (r-1) 0≠0
  a0:0<a
  aN:a<=N
  qq:∀x∈qs,QN κ ((D*(a*E)^(F.length+1-G.length):Nat):Int) (M*(2*(E*N))^(F.length+1-G.length)) x
  qR:∀x∈R,QN κ ((D*(a*E)^(F.length+1-G.length):Nat):Int) (M*(2*(E*N))^(F.length+1-G.length)) x
section
variable{κ:KX}
theorem QN.mulN{D E M N:Nat}{x y:κ.F}(h:QN κ (D:Int) M x)(g:QN κ (E:Int) N y):QN κ ((D*E:Nat):Int) (M*N) (x*y):=by
  rw[Wl]
  exact QN.mul h g
end
end My
namespace L2
open PySem PySem.Spec PyProof.Rows
section
variable{X:Cx}
def ipM:TIp:=λx y H Q=>∃i j,x = .int i/\y = .int j/\IntMulOk i j/\Q (.int (i*j)) H
theorem Zk1:PIp X .Mult ipM:=by
  intro pins s σ H x y v u Q I r1 r2 h
  obtain ⟨i,j,e1,e2,hm,q⟩:=h
  subst e1; subst e2
  obtain ⟨t,rfl⟩:=r1
  obtain ⟨t',rfl⟩:=r2
  exact PyProof.Rows.imul_int ⟨.int _,H,I.tok _,⟨_,rfl⟩,q⟩ hm
end
end L2
namespace My
open PySem L2 PyProof.Rows
section
variable{κ:KX}
noncomputable def hv(F:List κ.F)(x:κ.F):Nat->κ.F
  | 0=>0
  | i+1=>hv F x i*x+F.reverse.getD i 0
noncomputable def tot(F:List κ.F)(R P:List (List κ.F))(u x:κ.F):Nat->List (List κ.F)
  | 0=>ZgF 0 (ZaA κ R.length)
  | i+1=>Zqi (mulT (tot F R P u x i) P R.length) (ZgF (F.reverse.getD i 0*(u*x^i)) (ZaA κ R.length))
theorem ZnP{D E M N:Nat}{c:κ.F}{A:List (List κ.F)}(hc:QN κ (D:Int) M c)(hA:AllR (QN κ (E:Int) N) A):AllR (QN κ ((D*E:Nat):Int) (M*N)) (ZgF c A):=λf hf x hx=>by
  unfold ZgF at hf
  obtain ⟨r,hr,rfl⟩:=Qi.mp hf
  obtain ⟨y,hy,rfl⟩:=Qi.mp hx
  exact QN.mulN hc (hA r hr y hy)
theorem Zfz{D E M N L m:Nat}(hD:0<D)(hE:0<E){A B:List (List κ.F)}(wA:Wid B.length A)(wB:Wid m B)(hA:AllR (QN κ (D:Int) M) A)(hB:AllR (QN κ (E:Int) N) B)(hL:B.length<=L):AllR (QN κ ((D*E:Nat):Int) (L*(M*N))) (mulT A B m):=λf hf x hx=>by
  unfold mulT at hf
  obtain ⟨r,hr,rfl⟩:=Qi.mp hf
  obtain ⟨c,hc,rfl⟩:=Qi.mp hx
  unfold Zfx at hc
  obtain ⟨j,hj,rfl⟩:=Qi.mp hc
  have q:=ZkV (D:=(E:Int)) (E:=(D:Int)) (M:=N) (N:=M) (f:=Zhw B j) (g:=r) (Qu ⋯ ⋯) (ZiR wB (List.mem_range.mp hj) hB) (hA r hr) (Zhw B j).length (Q4 _) (by rw[ZdZ,wA r hr]; exact Q4 _)
  rw[<-Wl,Wi E D,Wi N M,ZdZ] at q
  show QN κ _ _ (Zhm (Zhw B j) r (Zhw B j).length)
  rw[ZdZ]
  exact q.mono (U9 _ hL)
theorem Zdn(n:Nat):AllR (QN κ ((1:Nat):Int) 1) (ZaA κ n):=λf hf x hx=>by
  unfold ZaA at hf
  obtain ⟨i,_,rfl⟩:=Qi.mp hf
  unfold Zh5 at hx
  obtain ⟨j,_,rfl⟩:=Qi.mp hx
  by_cases e:i=j
  · rw[if_pos e]; exact ZiP
  · rw[if_neg e]; exact QN.zero
theorem ZnQ{x:κ.F}(hx:QN κ ((1:Nat):Int) 12 x):∀i,QN κ ((1:Nat):Int) (12^i) (x^i)
  | 0=>by
    have e:x^0=(1:κ.F):=by grind
    rw[e]; exact ZiP
  | i+1=>by
    have e:x^(i+1)=x^i*x:=by grind
    rw[e,Wc]
    exact QN.mulN (D:=1) (E:=1) (ZnQ hx i) hx
end
end My
namespace My
open PySem L2 PyProof.Rows
theorem ZiS{κ:KX}:κ.mulF (K1 κ) (K1 κ)=K1 κ:=by show (1:κ.F)*1=1; grind
structure Wn (κ:KX) (A:Int) (x:κ.F) (B:Nat):Prop where
  n:NumV κ A x
  p:0<A
  l:A.natAbs<=B
  r:κ ≠ .q->A=1
theorem ZgK{κ:KX}:(1:κ.F)≠0:=λz=>Fd.zne z.symm
theorem Wn.ne{κ:KX}{A:Int}{x:κ.F}{B:Nat}(h:Wn κ A x B):x≠0:=λz=>by
  have h0:=h.p
  by_cases hq:κ = .q
  · subst hq
    have e1:Rat.num x=A:=h.n.1
    have z:x=(0:Rat):=z
    rw[z] at e1
    have:(0:Int)=A:=e1
    omega
  · have a:=h.r hq
    have n:=h.n
    rw[a] at n
    have e:=n.uniq Zfq
    rw[z] at e
    exact ZgK e.symm
theorem Wn.mul{κ:KX}{A C:Int}{x y:κ.F}{B E:Nat}(h:Wn κ A x B)(g:Wn κ C y E):Wn κ (A*C) (x*y) (B*E):=by
  refine ⟨?_,Qu h.p g.p,by rw[Qq]; exact Qz h.l g.l,λz=>by rw[h.r z,g.r z]; rfl⟩
  cases κ with
  | q =>
    have e1:Rat.num x=A:=h.n.1
    have e2:Rat.den x=1:=h.n.2
    have e3:Rat.num y=C:=g.n.1
    have e4:Rat.den y=1:=g.n.2
    have m:=ZhR (x:=x) (y:=y) (n:=A*C) (d:=1) ⟨∅,by rw[Int.gcd_one]⟩ (by rw[e1,e2,e3,e4]; simp)
    exact ⟨m.1,by have:=m.2; omega⟩
  | r p hp =>
    have a:=h.r (λz=>nomatch z)
    have b:=g.r (λz=>nomatch z)
    subst a b
    rw[h.n.uniq Zfq,g.n.uniq Zfq]
    show NumV _ (1*1) ((KX.r p hp).mulF (K1 _) (K1 _))
    rw[ZiS]
    exact Zfq
theorem wn1{κ:KX}:Wn κ 1 1 1:=⟨Zfq,∅,∅,λ_=>rfl⟩
theorem Wn.qn{κ:KX}{A:Int}{x:κ.F}{B:Nat}(h:Wn κ A x B):QN κ ((1:Nat):Int) B x:=(ZgH h.n).mono h.l
theorem ZoU{κ:KX}(x:κ.F)(i:Nat):x^(i+1)=x^i*x:=by grind
theorem Zps{κ:KX}(x:κ.F):x^0=1:=by grind
end My
namespace My
open PySem L2 PyProof.Rows
section
variable{κ:KX}
noncomputable def Sg(h:Nat->κ.F):Nat->κ.F
  | 0=>0
  | n+1=>Sg h n+h n
theorem Zaz{h g:Nat->κ.F}:∀ {n:Nat},(∀i,i<n->h i=g i)->Sg h n=Sg g n
  | 0,_=>rfl
  | n+1,e=>by
    show Sg h n+h n=Sg g n+g n
    rw[Zaz (n:=n) λi hi=>e i ⋯,e n ⋯]
theorem Zc6(c:κ.F)(h:Nat->κ.F):∀n,c*Sg h n=Sg (λi=>c*h i) n
  | 0=>by show c*0=0; grind
  | n+1=>by
    show c*(Sg h n+h n)=Sg (λi=>c*h i) n+c*h n
    rw[<-Zc6 c h n]; grind
theorem ZmN(h g:Nat->κ.F):∀n,Sg h n+Sg g n=Sg (λi=>h i+g i) n
  | 0=>ZnM
  | n+1=>by
    show (Sg h n+h n)+(Sg g n+g n)=Sg (λi=>h i+g i) n+(h n+g n)
    rw[<-ZmN h g n]; grind
theorem Zk2:∀n,Sg (λ_=>(0:κ.F)) n=0
  | 0=>rfl
  | n+1=>by show Sg _ n+0=0; rw[Zk2 n]; exact ZnM
theorem ZfA(h:Nat->Nat->κ.F)(m:Nat):∀n,Sg (λi=>Sg (λj=>h i j) m) n=Sg (λj=>Sg (λi=>h i j) n) m
  | 0=>(Zk2 m).symm
  | n+1=>by
    show Sg _ n+Sg (λj=>h n j) m=Sg (λj=>Sg (λi=>h i j) n+h n j) m
    rw[ZfA h m n,ZmN]
theorem ZfB(h:Nat->κ.F)(i:Nat):∀n,Sg (λl=>h l*(if i=l then 1 else 0)) n=if i<n then h i else 0
  | 0=>by rw[if_neg ⋯]; rfl
  | n+1=>by
    show Sg _ n+h n*(if i=n then 1 else 0)=_
    rw[ZfB h i n]
    by_cases e:i=n
    · subst e; rw[if_neg ⋯,if_pos rfl,if_pos ⋯]; grind
    · rw[if_neg e]
      by_cases l:i<n
      · rw[if_pos l,if_pos ⋯]; grind
      · rw[if_neg l,if_neg ⋯]; grind
theorem Zk3(f g:List κ.F):∀k,Zhm f g k=Sg (λi=>f.getD i 0*g.getD i 0) k
  | 0=>rfl
  | k+1=>by show Zhm f g k+_=Sg _ k+_; rw[Zk3 f g k]
noncomputable def pw(a:Nat->Nat->κ.F)(n:Nat):Nat->Nat->Nat->κ.F
  | 0,i,j=>if i=j then 1 else 0
  | k+1,i,j=>Sg (λl=>a i l*pw a n k l j) n
theorem Zic(a:Nat->Nat->κ.F)(n:Nat):∀k i j,i<n->j<n->Sg (λl=>a l j*pw a n k i l) n=pw a n (k+1) i j
  | 0,i,j,hi,hj=>by
    have e1:Sg (λl=>a l j*pw a n 0 i l) n=a i j:=by
      have:=ZfB (λl=>a l j) i n
      rw[if_pos hi] at this; exact this
    have e2:pw a n 1 i j=a i j:=by
      show Sg (λl=>a i l*(if l=j then 1 else 0)) n=_
      have:=ZfB (λl=>a i l) j n
      rw[if_pos hj] at this
      rw[<-this]
      refine Zaz λl _=>?_
      by_cases e:l=j
      · rw[if_pos e,if_pos e.symm]
      · rw[if_neg e,if_neg (Ne.symm e)]
    rw[e1,e2]
  | k+1,i,j,hi,hj=>by
    show Sg (λl=>a l j*Sg (λm=>a i m*pw a n k m l) n) n=Sg (λm=>a i m*pw a n (k+1) m j) n
    have e1:Sg (λl=>a l j*Sg (λm=>a i m*pw a n k m l) n) n=Sg (λl=>Sg (λm=>a l j*(a i m*pw a n k m l)) n) n:=Zaz λl _=>Zc6 _ _ n
    rw[e1,ZfA]
    refine Zaz λm hm=>?_
    rw[<-Zic a n k m j hm hj,Zc6]
    refine Zaz λl _=>?_
    grind
noncomputable def Zqj(R:List (List κ.F))(c:List κ.F):List κ.F:=R.map λr=>Zhm r c c.length
noncomputable def ZoK(R:List (List κ.F))(c:List κ.F):Nat->List κ.F
  | 0=>c
  | k+1=>Zqj R (ZoK R c k)
noncomputable def soF(F:List κ.F)(R:List (List κ.F))(c:List κ.F)(k i:Nat):κ.F:=Sg (λk=>F.getD k 0*(ZoK R c k).getD i 0) k
noncomputable def cS(r p:Nat->κ.F)(t:Nat):κ.F:=Sg (λk=>r (t-1-k)*p k) t
theorem Zk4{A:List (List κ.F)}{n i j:Nat}(c:κ.F)(w:Wid n A)(hi:i<A.length)(hj:j<n):ent (ZgF c A) i j=c*ent A i j:=by
  unfold ent ZgF
  have hw:=w A[i] (Qe hi)
  rw[Q3 (l:=List.map _ A),Qg,Q2 hi,Q3 (l:=A),Q2 hi]
  show (A[i].map (c * ·)).getD j 0=c*A[i].getD j 0
  rw[Q3,Qg,Q3,Q2 ⋯]; rfl
theorem ZgL{n i j:Nat}(hi:i<n)(hj:j<n):ent (ZaA κ n) i j=if i=j then 1 else 0:=by
  unfold ent ZaA
  rw[Q3 (l:=List.map _ _),Qg,Uq hi]
  show (Zh5 κ n i).getD j 0=_
  unfold Zh5
  rw[Q3,Qg,Uq hj]; rfl
theorem Zk5{A B:List (List κ.F)}{m i j:Nat}(hi:i<A.length)(hj:j<m):ent (mulT A B m) i j=Sg (λl=>ent B l j*ent A i l) B.length:=by
  unfold mulT Zfx
  have e:ent (List.map (λr=>List.map (λc=>Zjy c r) (List.map (Zhw B) (List.range m))) A) i j=Zjy (Zhw B j) (A.getD i []):=by
    unfold ent
    rw[Q3 (l:=List.map _ A),Qg,Q2 hi,Q3 (l:=A),Q2 hi]
    show ((List.map (Zhw B) (List.range m)).map λc=>Zjy c A[i]).getD j 0=Zjy (Zhw B j) A[i]
    rw[Q3,Qg,Qg,Uq hj]; rfl
  rw[e]
  unfold Zjy
  rw[Zk3,ZdZ]
  refine Zaz λl hl=>?_
  congr 1
  unfold Zhw ent
  rw[Q3,Qg,Q2 hl,Q3 (l:=B),Q2 hl]; rfl
end
end My
namespace L2
open PySem PySem.Spec PyProof.Rows
section
variable{X:Cx}
def ZnR:V->List V->Hp->VK->Prop:=λx vs H Q=>∃i:Int,x = .int i/\vs=[]/\Q (.int ((Builtin.Int.intBits i:Nat):Int)) H
theorem Zk6:MtM X "int.bit_length" ZnR:=by
  intro pins s σ H x vs v us Q I rx rv h
  obtain ⟨i,rfl,rfl,q⟩:=h
  obtain ⟨t,rfl⟩:=rx
  cases rv
  exact PySem.call_gives F.slot_int_bit_length (typeIs_int s i t) F.entry_int_bit_length (F.args_int_bit_length_1 _) (AutoIntG2.int_bit_length_int_0 i t) ⟨.int _,H,I.tok _,⟨_,rfl⟩,q⟩
end
end L2
namespace My
open PySem L2 PyProof.Rows
section
variable{κ:KX}
theorem ZiT(a:Nat->Nat->κ.F)(n:Nat):∀p q i j,i<n->j<n->pw a n (p+q) i j=Sg (λl=>pw a n p i l*pw a n q l j) n
  | 0,q,i,j,hi,hj=>by
    rw[Nat.zero_add]
    have:=ZfB (λl=>pw a n q l j) i n
    rw[if_pos hi] at this
    rw[<-this]
    exact Zaz λl _=>by show _=(if i=l then 1 else 0)*_; grind
  | p+1,q,i,j,hi,hj=>by
    rw[show p+1+q=(p+q)+1 by omega]
    show Sg (λl=>a i l*pw a n (p+q) l j) n=Sg (λl=>Sg (λm=>a i m*pw a n p m l) n*pw a n q l j) n
    have e1:Sg (λl=>Sg (λm=>a i m*pw a n p m l) n*pw a n q l j) n=Sg (λl=>Sg (λm=>pw a n q l j*(a i m*pw a n p m l)) n) n:=Zaz λl _=>by
      rw[<-Zc6]; grind
    rw[e1,ZfA]
    refine Zaz λm hm=>?_
    rw[ZiT a n p q m j hm hj,Zc6]
    exact Zaz λl _=>by grind
structure PwT (κ:KX) (s:Nat) (A:List (List κ.F)) (x:κ.F) (m:Nat) (T:List (List κ.F)):Prop where
  l:T.length=s
  w:Wid s T
  e:∀i j,i<s->j<s->ent T i j=x^m*pw (ent A) s m i j
theorem PwT.one{s:Nat}{A:List (List κ.F)}{x:κ.F}:PwT κ s A x 0 (ZaA κ s):=⟨ZaH s,ZaR s,λi j hi hj=>by
  rw[ZgL hi hj,Zps]
  show _=1*(if i=j then 1 else 0)
  grind⟩
theorem Zpt(x:κ.F)(m:Nat):∀k,x^(m+k)=x^m*x^k
  | 0=>by rw[Nat.add_zero,Zps]; grind
  | k+1=>by rw[<-Nat.add_assoc,ZoU,Zpt x m k,ZoU]; grind
theorem PwT.sq{s m:Nat}{A T:List (List κ.F)}{x:κ.F}(h:PwT κ s A x m T):PwT κ s A x (m+m) (mulT T T s):=by
  refine ⟨by rw[ZeP]; exact h.l,Zd0 _ _ _,λi j hi hj=>?_⟩
  rw[Zk5 (by rw[h.l]; exact hi) hj,h.l,ZiT _ _ _ _ _ _ hi hj,Zc6,Zpt]
  exact Zaz λl hl=>by rw[h.e l j hl hj,h.e i l hi hl]; grind
theorem PwT.tm{s m:Nat}{A T:List (List κ.F)}{x:κ.F}(h:PwT κ s A x m T)(lA:A.length=s)(wA:Wid s A):PwT κ s A x (m+1) (mulT T (ZgF x A) s):=by
  refine ⟨by rw[ZeP]; exact h.l,Zd0 _ _ _,λi j hi hj=>?_⟩
  rw[Zk5 (by rw[h.l]; exact hi) hj,ZcC,lA,<-Zic _ _ _ _ _ hi hj,Zc6,ZoU]
  exact Zaz λl hl=>by rw[Zk4 x wA ⋯ hj,h.e i l hi hl]; grind
theorem Zmp{R:List (List κ.F)}{D M:Nat}{A:Int}{x:κ.F}(hD:0<D)(q:AllR (QN κ (D:Int) M) R)(b:ZmG κ R.flatten A)(n:NumV κ A x):AllR (QN κ 1 M) (ZgF x R):=λf hf y hy=>by
  obtain ⟨f0,hf0,rfl⟩:=Qi.mp hf
  obtain ⟨y0,hy0,rfl⟩:=Qi.mp hy
  have qf:∀z∈R.flatten,QN κ (D:Int) M z:=λz hz=>by
    obtain ⟨f,hf,hz⟩:=List.mem_flatten.mp hz
    exact q f hf z hz
  have bl:=ZkZ hD qf b
  cases κ with
  | r p hp=>exact trivial
  | q =>
    obtain ⟨X,e,l⟩:=q f0 hf0 y0 hy0
    obtain ⟨c,hc⟩:=b.2.1 y0 (List.mem_flatten.mpr ⟨f0,hf0,hy0⟩)
    have hx:x=((A:Int):Rat):=Rat.ext n.1 n.2
    have d0:(0:Int)<(Rat.den y0:Int):=by have:=Rat.den_pos y0; omega
    have x1:x=Rat.divInt A 1:=by rw[<-Qs x,n.1,n.2]; rfl
    have D0:(D:Int)≠0:=by omega
    have ey:x*y0=Rat.divInt (Rat.num y0*c) 1:=by
      have e1:x*y0=Rat.divInt (A*Rat.num y0) (1*(Rat.den y0:Int)):=by
        rw[<-Wm,<-x1,Qs]
      rw[e1,W5 ⋯ ∅,hc]
      generalize Rat.num y0=u
      generalize ((Rat.den y0:Nat):Int)=v
      grind
    refine ⟨Rat.num y0*c,ey,?_⟩
    have e2:x*y0=Rat.divInt (A*X) (1*(D:Int)):=by
      rw[<-Wm,<-x1,<-e]
    rw[e2,W5 ⋯ ∅] at ey
    have ez:A*X=Rat.num y0*c*D:=by
      have:A*X*1=Rat.num y0*c*(1*(D:Int)):=ey
      generalize Rat.num y0*c=u at *
      grind
    have ea:A.natAbs*X.natAbs=(Rat.num y0*c).natAbs*D:=by
      have:=congrArg Int.natAbs ez
      rw[Qq,Qq (Rat.num y0*c)] at this
      rw[this,Qt]
    refine Nat.le_of_mul_le_mul_right (c:=D) ?_ hD
    rw[<-ea,Wi M D]
    exact Qz bl.2 l
def Cs(s M:Nat):Nat:=s^3*M
def SzP(κ:KX)(s M m:Nat)(R:List (List κ.F)):Prop:=match κ with
  | .q=>∃B:Nat,AllR (κ:=.q) (QN .q ((1:Nat):Int) B) R/\s*B<=Cs s M^m*(if m=0 then s else 1)
  | .r _ _=>True
def PrS(κ:KX)(s M D n:Nat):Prop:=match κ with
  | .q=>Cs s M^n<=10^180/\D^n<=10^250/\1<=M
  | .r _ _=>True
theorem SzP.get{s M D m n:Nat}{R:List (List κ.F)}(h:SzP κ s M m R)(hm:m<=n)(p:PrS κ s M D n)(s1:1<=s)(s7:s<=7):∃B:Nat,AllR (QN κ ((1:Nat):Int) B) R/\B<=10^190:=by
  cases κ with
  | r p hp=>exact ⟨0,λ_ _ _ _=>trivial,∅⟩
  | q =>
    obtain ⟨B,q,l⟩:=h
    have hC:1<=Cs s M:=by unfold Cs; have:1<=s^3:=Nat.one_le_pow _ _ s1; exact Wa this p.2.2
    have a:Cs s M^m<=Cs s M^n:=Qa hC hm
    refine ⟨B,q,?_⟩
    have e:(if m=0 then s else 1)<=7:=by split <;> omega
    have f:Cs s M^m*(if m=0 then s else 1)<=10^180*7:=Qz (Q0 a p.1) e
    have g:1*B<=s*B:=U9 _ s1
    have h:10^180*7<=10^190:=by decide
    omega
theorem SzP.one(s M:Nat):SzP κ s M 0 (ZaA κ s):=by
  cases κ with
  | r p hp=>trivial
  | q=>exact ⟨1,Zdn s,by rw[if_pos rfl,Nat.pow_zero]; omega⟩
theorem SzP.sq{s M m:Nat}{T:List (List κ.F)}(h:SzP κ s M m T)(hm:1<=m)(l:T.length=s)(w:Wid s T):SzP κ s M (m+m) (mulT T T s):=by
  cases κ with
  | r p hp=>trivial
  | q =>
    obtain ⟨B,q,hB⟩:=h
    rw[if_neg ⋯,Up] at hB
    have a:=Zfz (κ:=.q) (L:=s) ∅ ∅ (by rw[l]; exact w) w q q ⋯
    refine ⟨_,a,?_⟩
    rw[if_neg ⋯,Up,Uk]
    have:=Qz hB hB
    have e:s*(s*(B*B))=s*B*(s*B):=by grind
    omega
theorem SzP.tm{s M m:Nat}{T P:List (List κ.F)}(h:SzP κ s M m T)(hm:1<=m)(s1:1<=s)(w:Wid s T)(lP:P.length=s)(wP:Wid s P)(hP:AllR (QN κ 1 M) P):SzP κ s M (m+1) (mulT T P s):=by
  cases κ with
  | r p hp=>trivial
  | q =>
    obtain ⟨B,q,hB⟩:=h
    rw[if_neg ⋯,Up] at hB
    have a:=Zfz (κ:=.q) (L:=s) (E:=1) (N:=M) ∅ ∅ (by rw[lP]; exact w) wP q hP ⋯
    refine ⟨_,a,?_⟩
    rw[if_neg ⋯,Up,Wc]
    have e:s*(s*(B*M))=s*B*(s*M):=by grind
    rw[e]
    refine Qz hB ?_
    unfold Cs
    refine U9 _ ?_
    have:s^1<=s^3:=Qa s1 ∅
    rwa [Nat.pow_one] at this
theorem SzP.first{s M:Nat}{P:List (List κ.F)}(lP:P.length=s)(wP:Wid s P)(hP:AllR (QN κ 1 M) P):SzP κ s M 1 (mulT (mulT (ZaA κ s) (ZaA κ s) s) P s):=by
  cases κ with
  | r p hp=>trivial
  | q =>
    have a:=Zfz (κ:=.q) (L:=s) (m:=s) ∅ ∅ (by rw[ZaH]; exact ZaR s) (ZaR s) (Zdn s) (Zdn s) (by rw[ZaH]; exact Q4 _)
    have b:=Zfz (κ:=.q) (L:=s) (E:=1) (N:=M) ∅ ∅ (by rw[lP]; exact Zd0 _ _ _) wP a hP ⋯
    refine ⟨_,b,?_⟩
    rw[if_neg ∅,Up,Nat.pow_one]
    unfold Cs
    exact Wx (by grind)
end
theorem ZnS{κ:KX}{D M:Nat}(hD:0<D){f:List κ.F}{A:Int}(h:∀x∈f,QN κ (D:Int) M x)(b:ZmG κ f A){x:κ.F}(n:NumV κ A x):Wn κ A x D:=by
  obtain ⟨b0,b1⟩:=ZkZ hD h b
  refine ⟨n,b0,b1,λz=>?_⟩
  cases κ with
  | q=>exact absurd rfl z
  | r p hp=>exact b
def ZiU(P:Program)(w:World)(K:PySem.W.Frag)(mg:Str->Option Value)(base:Heap)(CF CR:Addr):Prop :=
  ∀(κ:KX) (H:Hp) (s:Addr),KdX CF CR κ H s->∃C dx fs ps dvs sp,H s=some (.ins C dx fs)/\Cls K C/\HasMX P w K mg base C "number" 3 ps dvs sp/\fs.lookup ("number" : Str)=none/\dvs=[] ∧
    ∀(H':Hp) (b:Int) (y:κ.F) (Q:VK) (E:XK),Same H H'->NumV κ b y->0<b->b.natAbs<=10^1000->(κ ≠ .q->b=1)->(∀v H'',Same H' H''->NR κ H'' v (Fd.inv y)->Q v H'')->sp [.ref s,.int 1,.int b] H' Q E
inductive Zcg (CF CR:Addr) (vs:List V) (H:Hp) (Q:VK) (zE:XK):Prop
  | mk (κ:KX) (s a:Addr) (rs:List Addr) (A:List (List κ.F)) (n D M:Nat) (_:vs=[.ref s,.ref a,.int (n:Int)]) (_:KdX CF CR κ H s) (_:TabL κ H a rs A A.length) (_:A.length<=7) (_:AllR (QN κ (D:Int) M) A) (_:0<D) (_:D<=10^140) (_:M<=10^400) (_:n<=10^60) (_:PrS κ A.length M D n) (_:∀(H':Hp) (tp D':Addr) (rs':List Addr) (T:List (List κ.F)) (b:Int) (x:κ.F),Same H H'->H' tp=some (.tup [.ref D',.int b])->TabL κ H' D' rs' T A.length->PwT κ A.length A x n T->SzP κ A.length M n T->x≠0->Wn κ b (x^n) (10^250)->Q (.ref tp) H'):Zcg CF CR vs H Q zE
end My
namespace My
open PySem L2 PyProof.Rows
section
variable{P:Program}{w:World}{K:PySem.W.Frag}{mg:Str->Option Value}{base:Heap}{CF CR cF cN:Addr}
theorem Zk7(kd:Kd K mg CF CR)(hF:HasMX P w K mg base CF "number" 3 ["self", "top", "bottom"] [] ZbZ) (hR:HasMX P w K mg base CR "number" 3 ["self", "top", "bottom"] [] (Zbu CR cN)):ZiU P w K mg base CF CR:=by
  intro κ H s hk
  cases κ with
  | q =>
    obtain ⟨dx,h⟩:=hk
    refine ⟨CF,dx,[],_,_,_,h,kd.clF,hF,rfl,rfl,λH' b y Q E S hy b0 bl _ k=>⟨s,1,b,rfl,b0,bl,λr x z nr fc e=>?_⟩⟩
    have e1:Rat.num y=b:=hy.1
    have e2:Rat.den y=1:=hy.2
    obtain ⟨i1,i2⟩:=Zkw (q:=y) fc (by rw[e1,e2,e]; rfl)
    refine k _ _ (Zah nr _) ⟨r,rfl,?_⟩
    show upd H' r _ r=some (.tup [.int (Fd.inv y:Rat).num,.int ((Fd.inv y:Rat).den:Int)])
    rw[i1,i2]; exact Zaf
  | r p hp =>
    obtain ⟨dx,h⟩:=hk
    have h2:=hp.pr.1
    refine ⟨CR,dx,_,_,_,_,h,kd.clR,hR,Zds p ∅,rfl,λH' b y Q E S hy b0 bl b1 k=>?_⟩
    have b1:=b1 (λz=>nomatch z)
    subst b1
    refine ⟨s,p,1,1,rfl,⟨dx,S _ _ h⟩,hp.pr,by have:=hp.lt; omega,∅,∅,λz=>?_,λ_ H'' r S' r0 r1 rd=>?_⟩
    · have:=Int.le_of_dvd ∅ z
      omega
    · refine k _ H'' S' ?_
      have ey:y=K1 (.r p hp):=hy.uniq Zfq
      subst ey
      have ei:(KX.r p hp).invF (K1 (.r p hp))=K1 (.r p hp):=by
        have:(KX.r p hp).mulF (K1 (.r p hp)) (K1 (.r p hp))=K1 (.r p hp):=ZiS
        exact (Zhf this).symm
      show V.int r=V.int ((Fin.val ((KX.r p hp).invF (K1 (.r p hp))):Nat):Int)
      rw[ei,Zgt]
      congr 1
      rw[U2] at rd
      have e3:r%p=1%p:=Int.emod_eq_emod_iff_emod_sub_eq_zero.mpr (Ua rd)
      rw[Ub r0 r1,Ub ∅ ⋯] at e3
      exact e3
theorem sc_power_parts:FnScope ["kind", "A", "n", "part", "total", "bottom", "place"] ["kind", "A", "n"] (Zag Zcv):=‹2›
theorem ZfM(h:Here K mg "power_parts" Zcv) (T:Nm mg) (h_evenly_freed:Has P w K mg base "evenly_freed" 6 ["kind", "table"] (ZbJ CF CR)) (h_unit:Has P w K mg base "unit" 6 ["kind", "size"] (ZeO CF CR)) (h_times_table:HasX P w K mg base "times_table" 6 ["kind", "A", "B"] (Zb0 CF CR)):Has P w K mg base "power_parts" 7 ["kind", "A", "n"] (Zcg CF CR):=by
  refine h.has (λf fd F=>F.binds λ_ _ _ _ _ _ us hl=>by obtain ⟨_,_,_,rfl⟩:=Zdq hl; exact rfl) λf fd F=>F.ok sc_power_parts (λvs H Q E h=>?_) (λcdv A outer s H vs Q E hr h=>?_)
  · obtain ⟨_,_,_,_,_,_,_,_,rfl,_⟩:=h
    rfl
  obtain ⟨κ,sk,a,rs,A,n,Dn,Mn,rfl,hk,ta,l7,qA,dn0,dn1,mn1,n60,pr,k⟩:=h
  have nd:=sc_power_parts.nd
  refine ⟨_,(Zab (Zak (i:=3) nd rfl (Or.inl rfl) (Zao h_evenly_freed hr (by rfl) (Zaa (pv 0) (Zaa (pv 1) Zac))))
    (Zab (Zak (i:=4) nd rfl (Or.inl rfl) (Zao h_unit hr (by rfl) (Zaa (pv 0) (Zaa (Zam Zai (by rfl) T.len boot_len (Zaa (pv 1) Zac)) Zac))))
    (Zab (Zak (i:=5) nd rfl (Or.inl rfl) Zad)
    (Zab (Zbf PassesOwn.never rfl (ZkR (by rfl) T.range (Zaa (Zal Zb4 (Zoj PySem.F.plainAttrs_int PySem.F.slot_int_bit_length PySem.F.type_int_bit_length Zk6 (pv 2)) Zad) (Zaa (Zf0 ZdN Zad) (Zaa (Zf0 ZdN Zad) Zac)))) (Zau (i:=6) nd rfl (Or.inl rfl)) (Zab (Zak (i:=4) nd rfl (Or.inl rfl) (Zcr h_times_table ZeC hr (by rfl) (Zaa (pv 0) (Zaa (pv 4) (Zaa (pv 4) Zac)))))
      (Zab (Zio (i:=5) nd rfl (Or.inl rfl) (pv 5) Zk1)
      (Zae (ZaC (Zaq Zbh (Zal Zbp (Zal Zoc (pv 2) (pv 6)) Zad) Zad (Zap _)) (Zab (Zak (i:=4) nd rfl (Or.inl rfl) (Zcr h_times_table ZeC hr (by rfl) (Zaa (pv 0) (Zaa (pv 4) (Zaa (Zar Zan (pv 3) Zad (λ_ _=>rfl)) Zac)))))
        (Zae (Zio (i:=5) nd rfl (Or.inl rfl) (Zar Zan (pv 3) Zad (λ_ _=>rfl)) Zk1))) Zat)))))
    (Zae (Zaj (ZaY (Zaa (pv 4) (Zaa (pv 5) Zac))))))))),?_⟩
  have lr:=ta.r.1
  have s1:=ta.n1
  obtain ⟨sz,hsz⟩:∃sz,A.length=sz:=⟨_,rfl⟩
  refine ⟨_,rfl,_,rfl,κ,sk,a,rs,A,A.length,Dn,Mn,rfl,hk,ta,qA,dn0,dn1,Q0 mn1 ∅,λH1 tp pa ps bA x S1 htp bt nx tp1=>?_⟩
  refine ⟨_,rfl,_,rfl,a,_,rfl,.inl (SqL.of (S1 _ _ ta.l)),?_⟩
  rw[Q1,lr]
  refine ⟨κ,sk,A.length,rfl,hk.same S1,⋯,λH2 ua us S2 nua hua rxu=>?_⟩
  have S02:=S1.trans S2
  have qFl:∀y∈A.flatten,QN κ (Dn:Int) Mn y:=λy hy=>by
    obtain ⟨f,hf,hy⟩:=List.mem_flatten.mp hy
    exact qA f hf y hy
  have wx:Wn κ bA x Dn:=ZnS dn0 qFl bt nx
  have xne:=wx.ne
  have qP:AllR (QN κ 1 Mn) (ZgF x A):=Zmp dn0 qA bt nx
  have lP:(ZgF x A).length=A.length:=ZcC x A
  have wP:Wid A.length (ZgF x A):=ZgG ta.w x
  have tp2:=tp1.same S2
  have htp2:=S2 _ _ htp
  have tu:TabL κ H2 ua us (ZaA κ A.length) A.length:=⟨hua,rxu,ZaR _,by rw[ZaH]; exact s1,by rw[ZaH]; omega,⋯⟩
  obtain ⟨bl,hbl⟩:∃bl,Builtin.Int.intBits (n:Int)=bl:=⟨_,rfl⟩
  have n2:n<2^bl:=by
    have:Bits bl (n:Int):=Wx hbl
    have:=this.lt
    rwa [Qt] at this
  have n3:∀i,i<bl->2^i<=n:=λi hi=>by
    rcases U8 n (2^i) with c | c
    · have:Bits i (n:Int):=Bits.of (by rw[Qt]; exact c)
      have:Builtin.Int.intBits (n:Int)<=i:=this
      omega
    · exact c
  have bl200:bl<=200:=by
    rcases U8 200 bl with c | c
    · have:=n3 200 c
      have:(2:Nat)^200<=10^60:=Q0 this n60
      exact absurd this ∅
    · exact c
  refine ⟨_,rfl,rfl,(n:Int),rfl,rfl,_,_,rfl,rfl,_,rfl,_,rfl,(bl:Int)-1,-1,(by rw[hbl]),⟨⋯,⋯,⋯,⋯⟩,?_⟩
  rw[show ((bl:Int)-1 - -1).toNat=bl by omega]
  refine Zml (hi:=(bl:Int)-1) (n:=bl) (λi σ H3=>∃(z6:Option V) (da:Addr) (ds:List Addr) (Tt:List (List κ.F)) (b:Int),σ=[some (.ref sk),some (.ref a),some (.int (n:Int)),some (.ref tp),some (.ref da),some (.int b),z6]/\i<=bl/\Same H2 H3/\TabL κ H3 da ds Tt A.length/\PwT κ A.length A x (n/2^(bl-i)) Tt/\SzP κ A.length Mn (n/2^(bl-i)) Tt/\(i=0->Tt=ZaA κ A.length)/\Wn κ b (x^(n/2^(bl-i))) (Dn^(n/2^(bl-i)))) ?_ ?_ ?_
  · have z:n/2^(bl-0)=0:=Nat.div_eq_of_lt n2
    rw[z]
    exact ⟨_,ua,us,_,1,rfl,⋯,Same.refl _,tu,PwT.one,SzP.one _ _,λ_=>rfl,by rw[Zps]; exact wn1⟩
  · rintro i σ H3 hi ⟨z6,da,ds,Tt,b,rfl,_,S3,td,pt,sz3,t0,wb⟩
    have S03:=S02.trans S3
    obtain ⟨m,hm⟩:∃m,n/2^(bl-i)=m:=⟨_,rfl⟩
    obtain ⟨m',hm'⟩:∃m',n/2^(bl-1-i)=m':=⟨_,rfl⟩
    have mm:m'/2=m:=by
      rw[<-hm,<-hm',Nat.div_div_eq_div_mul,<-Wc,show (bl-1-i).succ=bl-i by omega]
    have mn:m'<=n:=by rw[<-hm']; exact Nat.div_le_self _ _
    rw[hm] at pt sz3 wb
    have i0:m=0↔i=0:=by
      constructor
      · intro z
        rcases Uf i with c | c
        · exact c
        · have:=n3 (bl-i) ⋯
          have:1<=n/2^(bl-i):=(Nat.one_le_div_iff (U1 ∅)).mpr this
          omega
      · intro z
        subst z
        rw[<-hm]; exact Nat.div_eq_of_lt n2
    have f1:i=0->m'=1:=λz=>by
      subst z
      rw[<-hm']
      have a1:=n3 (bl-1) ⋯
      have a2:n<2*2^(bl-1):=by rw[Wi,<-Wc,show (bl-1).succ=bl by omega]; exact n2
      show n/2^(bl-1-0)=1
      rw[Nat.sub_zero]
      have:1<=n/2^(bl-1):=(Nat.one_le_div_iff (U1 ∅)).mpr a1
      have:n/2^(bl-1)<2:=Nat.div_lt_of_lt_mul ⋯
      omega
    have lT:=pt.l
    have wT:=pt.w
    obtain ⟨M,qT,m1⟩:=sz3.get (show m<=n by omega) pr s1 l7
    refine ⟨_,rfl,_,rfl,_,rfl,κ,sk,da,da,ds,ds,Tt,Tt,A.length,1,1,M,M,rfl,hk.same S03,(by rw[lT]; exact td),td,qT,qT,∅,∅,∅,∅,Q0 m1 ∅,Q0 m1 ∅,λH4 ea es S4 te=>?_⟩
    have S34:=S3.trans S4
    have S04:=S02.trans S34
    have pt2:=pt.sq
    have sq:∃M:Nat,AllR (QN κ ((1:Nat):Int) M) (mulT Tt Tt A.length)/\M<=10^190:=by
      rcases Uf m with c | c
      · rw[t0 (i0.mp c)]
        have:=Zfz (κ:=κ) (L:=A.length) (m:=A.length) (D:=1) (E:=1) (M:=1) (N:=1) ∅ ∅ (by rw[ZaH]; exact ZaR _) (ZaR _) (Zdn _) (Zdn _) (by rw[ZaH]; exact Q4 _)
        exact ⟨_,this,Q0 (show A.length*(1*1)<=7 by omega) ∅⟩
      · exact (sz3.sq c lT wT).get (show m+m<=n by omega) pr s1 l7
    obtain ⟨M2,q2,m21⟩:=sq
    have lb:b.natAbs<=10^1000:=by
      cases κ with
      | r p hp=>rw[wb.r (λz=>nomatch z)]; decide
      | q =>
        have:Dn^m<=Dn^n:=Qa dn0 ⋯
        exact Q0 wb.l (Q0 this (Q0 pr.2.1 ∅))
    have w2:=wb.mul wb
    rw[<-Zpt,<-Uk] at w2
    refine ⟨_,rfl,_,rfl,b,b,rfl,rfl,Zpg lb lb,?_⟩
    refine ⟨_,rfl,_,rfl,_,_,rfl,rfl,(show (0:Int)<=(bl:Int)-1-i by omega),_,_,rfl,rfl,(by show (0:Int)<2; decide),rfl,_,rfl,?_⟩
    have ev:(n:Int)/2^((bl:Int)-1-i).toNat%2=((m'%2:Nat):Int):=by
      rw[show ((bl:Int)-1-i).toNat=bl-1-i by omega,<-hm',Wb,Int.natCast_ediv,Int.natCast_pow]; rfl
    have em':n/2^(bl-(i+1))=m':=by rw[<-hm']; congr 2; omega
    refine ZbC (λz=>?_) (λz=>?_)
    · have z:(n:Int)/2^((bl:Int)-1-i).toNat%2=1:=z
      rw[ev] at z
      have e2:m'=m+m+1:=by omega
      refine ⟨_,rfl,_,rfl,_,rfl,tp,_,0,_,rfl,rfl,SqT.of (S34 _ _ htp2),rfl,κ,sk,ea,pa,es,ps,mulT Tt Tt A.length,ZgF x A,A.length,1,1,M2,Mn,rfl,hk.same S04,(by rw[lP]; exact te),tp2.same S34,q2,qP,∅,∅,∅,∅,Q0 m21 ∅,Q0 mn1 ∅,λH5 ga gs S5 tg=>?_⟩
      have lb2:(b*b).natAbs<=10^1000:=by
        cases κ with
        | r p hp=>rw[w2.r (λz=>nomatch z)]; decide
        | q =>
          have:Dn^(m+m)<=Dn^n:=Qa dn0 ⋯
          exact Q0 w2.l (Q0 this (Q0 pr.2.1 ∅))
      have w3:=w2.mul wx
      rw[<-ZoU,<-Wc] at w3
      refine ⟨_,rfl,_,rfl,tp,_,1,_,rfl,rfl,SqT.of ((S34.trans S5) _ _ htp2),rfl,b*b,bA,rfl,rfl,Zpg lb2 (Q0 wx.l (Q0 dn1 ∅)),?_⟩
      refine ⟨_,ga,gs,_,b*b*bA,rfl,⋯,S34.trans S5,tg,?_,?_,λq=>absurd q ⋯,?_⟩
      · rw[em',e2]; exact pt2.tm rfl ta.w
      · rw[em',e2]
        rcases Uf m with c | c
        · rw[c,t0 (i0.mp c)]; exact SzP.first lP wP qP
        · exact (sz3.sq c lT wT).tm ⋯ s1 (Zd0 _ _ _) lP wP qP
      · rw[em',e2]; exact w3
    · have z:¬((n:Int)/2^((bl:Int)-1-i).toNat%2=1):=z
      rw[ev] at z
      have e2:m'=m+m:=by omega
      have m1':1<=m:=by
        rcases Uf m with c | c
        · have:=f1 (i0.mp c); omega
        · exact c
      refine ⟨_,ea,es,_,b*b,rfl,⋯,S34,te,?_,?_,λq=>absurd q ⋯,?_⟩
      · rw[em',e2]; exact pt2
      · rw[em',e2]; exact sz3.sq m1' lT wT
      · rw[em',e2]; exact w2
  · rintro σ H3 ⟨z6,da,ds,Tt,b,rfl,_,S3,td,pt,sz3,t0,wb⟩
    have z:n/2^(bl-bl)=n:=by rw[Um,Nat.pow_zero,Nat.div_one]
    rw[z] at pt sz3 wb
    refine ⟨_,rfl,_,rfl,(by show 2<=sizeLine; decide),λtq ntq=>?_⟩
    have St:=Zah ntq (.tup [.ref da,.int b])
    refine k _ tq da ds Tt b x (S02.trans (S3.trans St)) Zaf (td.same St) pt sz3 xne ⟨wb.n,wb.p,?_,wb.r⟩
    cases κ with
    | r p hp=>rw[wb.r (λz=>nomatch z)]; decide
    | q=>exact Q0 wb.l pr.2.1
end
end My
namespace My
open PySem L2 PyProof.Rows
section
variable{κ:KX}
theorem ZmO(a:Nat->Nat->κ.F)(n:Nat){i j:Nat}(hj:j<n):pw a n 1 i j=a i j:=by
  show Sg (λl=>a i l*(if l=j then 1 else 0)) n=_
  have:=ZfB (λl=>a i l) j n
  rw[if_pos hj] at this
  rw[<-this]
  exact Zaz λl _=>by
    by_cases e:l=j
    · rw[if_pos e,if_pos e.symm]
    · rw[if_neg e,if_neg (Ne.symm e)]
theorem Zmq{a b:Nat->Nat->κ.F}{n:Nat}(h:∀i j,i<n->j<n->a i j=b i j):∀k i j,i<n->j<n->pw a n k i j=pw b n k i j
  | 0,i,j,_,_=>rfl
  | k+1,i,j,hi,hj=>by
    show Sg _ n=Sg _ n
    exact Zaz λl hl=>by rw[h i l hi hl,Zmq h k l j hl hj]
theorem Zk8(c:κ.F)(h:Nat->κ.F)(n:Nat):Sg h n*c=Sg (λi=>h i*c) n:=by
  have e:Sg h n*c=c*Sg h n:=by grind
  rw[e,Zc6]
  exact Zaz λi _=>by grind
theorem ZmP{a b:Nat->Nat->κ.F}{n:Nat}(h:∀i j,i<n->j<n->Sg (λl=>a i l*b l j) n=if i=j then 1 else 0):∀k i j,i<n->j<n->Sg (λl=>pw a n k i l*pw b n k l j) n=if i=j then 1 else 0
  | 0,i,j,hi,hj=>by
    show Sg (λl=>(if i=l then 1 else 0)*(if l=j then 1 else 0)) n=_
    have:=ZfB (λl=>if l=j then (1:κ.F) else 0) i n
    rw[if_pos hi] at this
    rw[<-this]
    exact Zaz λl _=>by grind
  | k+1,i,j,hi,hj=>by
    have e:∀l,l<n->pw a n (k+1) i l*pw b n (k+1) l j=Sg (λp=>Sg (λq=>pw a n k i p*(a p l*b l q)*pw b n k q j) n) n:=λl hl=>by
      rw[ZiT a n k 1 i l hi hl,show k+1=1+k by omega,ZiT b n 1 k l j hl hj,Zk8]
      refine Zaz λp hp=>?_
      rw[Zc6]
      refine Zaz λq hq=>?_
      rw[ZmO a n hl,ZmO b n hq]
      grind
    rw[Zaz e,ZfA]
    have e2:∀p,p<n->Sg (λl=>Sg (λq=>pw a n k i p*(a p l*b l q)*pw b n k q j) n) n=pw a n k i p*pw b n k p j:=λp hp=>by
      rw[ZfA]
      have e3:∀q,q<n->Sg (λl=>pw a n k i p*(a p l*b l q)*pw b n k q j) n=pw a n k i p*((if p=q then 1 else 0)*pw b n k q j):=λq hq=>by
        rw[<-h p q hp hq,Zk8,Zc6]
        exact Zaz λl _=>by grind
      rw[Zaz e3,<-Zc6]
      congr 1
      have:=ZfB (λq=>pw b n k q j) p n
      rw[if_pos hp] at this
      rw[<-this]
      exact Zaz λq _=>by grind
    rw[Zaz e2]
    exact ZmP h k i j hi hj
theorem Zid(f v:Nat->κ.F):∀n,ZcK f v n=Sg (λi=>f i*v i) n
  | 0=>rfl
  | n+1=>by
    show ZcK f v n+_=Sg _ n+_
    rw[Zid f v n]
end
inductive Zes (CF CR:Addr) (vs:List V) (H:Hp) (Q:VK) (zE:XK):Prop
  | mk (κ:KX) (s a:Addr) (cv:V) (c:κ.F) (rs:List Addr) (R:List (List κ.F)) (m:Nat) (_:vs=[.ref s,cv,.ref a]) (_:KdX CF CR κ H s) (_:NR κ H cv c) (_:B1 κ c) (_:TabL κ H a rs R m) (_:AllR (B1 κ) R) (_:∀(H':Hp) (D:Addr) (rs':List Addr),Same H H'->TabL κ H' D rs' (ZgF c R) m->(∀a∈rs',H a=none)->H D=none->rs'.Nodup->D∉rs'->Q (.ref D) H'):Zes CF CR vs H Q zE
def ZgM(CF CR cF cI:Addr)(sp0:Sp):Sp:=λvs H Q E=>∃(κ:KX) (s a:Addr) (rs:List Addr) (A:List (List κ.F)) (m:Nat) (n:Int),vs=[.ref s,.ref a,.int n]/\KdX CF CR κ H s/\TabR κ H a rs A m/\(A.length≠m->E (.ref cF) none H)/\(A.length=m->m<=7 ∧
  (0<=n->∃D M:Nat,AllR (QN κ (D:Int) M) A/\0<D/\D<=10^140/\M<=10^400/\n<=10^60/\PrS κ m M D n.toNat/\∀(H':Hp) (X:Addr) (as:List Addr) (T:List (List κ.F)) (Dn Bn:Nat),Same H H'->H' X=some (.lst (as.map V.ref))->RowsX κ H' as T->T.length=m->Wid m T->(∀i j,i<m->j<m->ent T i j=pw (ent A) m n.toNat i j)->AllR (QN κ (Dn:Int) Bn) T->0<Dn->Dn<=10^250->Bn<=10^190->as.Nodup->X∉as->(∀b∈as,H b=none)->H X=none->Q (.ref X) H') ∧
  (n<0->∃(R:List (List κ.F)) (ts0:List (Tn κ)) (ls:List Nat),A=ZaE ts0 R/\R.length=m/\Wid m R/\(∀t∈ts0,t.ok m)/\Ech R m m ls 1/\QT κ m (Zc3 A (([]:List κ.F).map (1 * ·))) ∧
    (ls.length<m->∀(H':Hp) (d:Addr),Same H H'->H' d=some (.xd [("rank", .int (ls.length:Int))])->E (.ref cI) (some d) H') ∧
    (ls.length=m->∀(H':Hp) (D:Addr) (as:List Addr) (ts:List (Tn κ)),Same H H'->H D=none->H' D=some (.lst (as.map V.ref))->RowsX κ H' as (ZaE ts (ZaA κ m))->(∀t∈ts,t.ok m)->ZaE ts (ZaE ts0 R)=R->sp0 [.ref s,.ref D,.int (-n)] H' Q E)))
end My
namespace My
open PySem L2 PyProof.Rows
section
variable{P:Program}{w:World}{K:PySem.W.Frag}{mg:Str->Option Value}{base:Heap}{CF CR cF cI:Addr}
theorem ZjB(h:Here K mg "scaled" ZeI) (h_scaled_row:Has P w K mg base "scaled_row" 3 ["kind", "number", "row"] (Zbc CF CR)):Has P w K mg base "scaled" 4 ["kind", "number", "table"] (Zes CF CR):=by
  refine h.has (λf fd F=>F.binds λ_ _ _ _ _ _ us hl=>by obtain ⟨_,_,_,rfl⟩:=Zdq hl; exact rfl) λf fd F=>F.ok Zhp (λvs H Q E h=>?_) (λcdv A outer s H vs Q E hr h=>?_)
  · obtain ⟨_,_,_,_,_,_,_,_,rfl,_⟩:=h
    rfl
  obtain ⟨κ,sk,a,cv,c,rs,R,m,rfl,hk,nc,bc,tb,bR,k⟩:=h
  refine ⟨_,(Zae (Zaj (Za2 ["row"] [(0, "kind"),(1, "number")] rfl (ZaI (pv 2)) (by exact λ_ _ _ _=>(Zau (i:=0) (show (["row", "kind", "number"]:List Str).Nodup by decide +kernel) rfl (Or.inl rfl))) (by exact λ_ _ _ _=>(Zao h_scaled_row hr (by rfl) (Zaa (pv 1) (Zaa (pv 2) (Zaa (pv 0) Zac))))) ⟨⟨rfl,rfl,Or.inl rfl⟩,⟨⟨rfl,rfl,Or.inl rfl⟩,trivial⟩⟩))),?_⟩
  have lr:=tb.r.1
  have n9:=tb.n9
  have m9:=tb.m9
  refine ⟨_,rfl,a,rfl,⟨_,SqL.of tb.l⟩,?_⟩
  refine ZaG (K:=K) (a:=a) (xs:=rs.map V.ref) (λi ys H2=>Same H H2/\∃ds:List Addr,ys=ds.map V.ref/\RowsX κ H2 ds ((R.take i).map λr=>r.map (c * ·))/\(∀d∈ds,H d=none)/\ds.Nodup) (by rw[Q1]; omega) ⟨Same.refl _,[],rfl,.nil,(λd h=>nomatch h),List.nodup_nil⟩ (λi ys H2 _ q=>SqL.of (q.1 _ _ tb.l)) ?_ ?_
  · rintro i x ys H2 hx hl ⟨S2,ds,rfl,rx,fr,nd⟩
    obtain ⟨b,hb,rfl⟩:=Zax hx
    obtain ⟨f,hf⟩:=Zaw hb lr
    obtain ⟨zs,hz,al⟩:=tb.r.2 i b f hb hf
    have mf:=Q9 hf
    refine ⟨_,rfl,_,rfl,_,rfl,κ,sk,b,cv,c,zs,f,rfl,hk.same S2,nc.same S2,S2 _ _ hz,al.mono (λ_ _ n=>n.same S2),bc,bR f mf,by rw[tb.w f mf]; omega,λH3 D ws S3 nD hD e3=>⟨S2.trans S3,ds++[D],by simp,?_,(λd hd=>?_),?_⟩⟩
    · rw[Qm,hf,Qj]
      exact (rx.same S3).snoc hD e3
    · rcases Qf.mp hd with q | q
      · exact fr d q
      · rw[Q6.mp q]; exact S2.free nD
    · rw[List.nodup_append]
      refine ⟨nd,by simp,λx hx y hy e=>?_⟩
      rw[Q6.mp hy] at e
      rw[e] at hx
      exact rx.notin nD hx
  · rintro ys H2 hl ⟨S2,ds,rfl,rx,fr,nd⟩ D nD
    have nin:=rx.notin nD
    rw[Q1,lr,W6] at rx
    have SD:=Zah nD (.lst (ds.map V.ref))
    exact k _ D ds (S2.trans SD) ⟨Zaf,rx.same SD,ZgG tb.w c,by rw[ZcC]; exact tb.n1,by rw[ZcC]; exact tb.n9,tb.m9⟩ fr (S2.free nD) nd nin
theorem sc_power:FnScope ["kind", "A", "n", "found"] ["kind", "A", "n"] (Zag Zga):=‹2›
theorem ZoL(h:Here K mg "power" Zga):HasX P w K mg base "power" 9 ["kind", "A", "n"] spF :=
  h.hasX (λf fd F=>F.binds λ_ _ _ _ _ _ us hl=>by obtain ⟨_,_,_,rfl⟩:=Zdq hl; exact rfl) λf fd F=>⟨λ_ _ _ _ z=>z.elim,λ_ _ _ _ _ _ _ _ _ _ _ _ _ z=>z.elim⟩
theorem ZiV{j:Nat}{sp0:Sp}(hj:9<=j)(h:Here K mg "power" Zga) (mnC:ZiU P w K mg base CF CR) (h_need_square:HasX P w K mg base "need_square" j ["table"] (Zbn cF)) (h_inverse:HasX P w K mg base "inverse" j ["kind", "table"] (Zep CF CR cF cI)) (h_power_parts:Has P w K mg base "power_parts" j ["kind", "A", "n"] (Zcg CF CR)) (h_scaled:Has P w K mg base "scaled" j ["kind", "number", "table"] (Zes CF CR)) (h_power:HasX P w K mg base "power" j ["kind", "A", "n"] sp0):HasX P w K mg base "power" (j+1) ["kind", "A", "n"] (ZgM CF CR cF cI sp0):=by
  refine h.hasX (λf fd F=>F.binds λ_ _ _ _ _ _ us hl=>by obtain ⟨_,_,_,rfl⟩:=Zdq hl; exact rfl) λf fd F=>F.okx sc_power (λvs H Q E h=>?_) (λcdv A outer s H vs Q E hr h=>?_)
  · obtain ⟨_,_,_,_,_,_,_,rfl,_⟩:=h
    rfl
  obtain ⟨κ,sk,a,rs,A,m,n,rfl,hk,ta,kF,kS⟩:=h
  have nd:=sc_power.nd
  refine ⟨_,(Zab (ZaL (Zcr h_need_square ZhH hr (by rfl) (Zaa (pv 1) Zac)))
    (Zab (ZaC (Zaq Zca (pv 2) Zad (Zap _)) (Zae (Zaj (Zcr h_power ZhH hr (by rfl) (Zaa (pv 0) (Zaa (Zcr h_inverse ZhH hr (by rfl) (Zaa (pv 0) (Zaa (pv 1) Zac))) (Zaa (Zf0 ZdN (pv 2)) Zac)))))) Zat)
    (Zab (Zak (i:=3) nd rfl (Or.inl rfl) (Zao h_power_parts hr (by rfl) (Zaa (pv 0) (Zaa (pv 1) (Zaa (pv 2) Zac)))))
    (Zae (Zaj (Zao h_scaled hr (by rfl) (Zaa (pv 0) (Zaa (Zbl (pv 0) ZhH hr (Zaa Zad (Zaa (Zar Zan (pv 3) Zad (λ_ _=>rfl)) Zac))) (Zaa (Zar Zan (pv 3) Zad (λ_ _=>rfl)) Zac))))))))),?_⟩
  refine ⟨_,rfl,κ,a,rs,A,m,rfl,ta,(λsq=>?_),kF⟩
  obtain ⟨m7,kP,kN⟩:=kS sq
  refine ⟨_,rfl,_,_,rfl,rfl,_,rfl,?_⟩
  refine Za3 (λz=>?_) (λz=>?_)
  · have z:n<0:=z
    obtain ⟨R,ts0,ls,eA,lR,wR,ok0,ech,qt,kI,kQ⟩:=kN z
    refine ⟨_,rfl,_,rfl,_,rfl,κ,sk,a,rs,A,m,rfl,hk,ta,(λq=>absurd sq q),(λ_=>⟨m7,R,ts0,ls,eA,lR,wR,ok0,ech,qt,(λl H' d S hd=>kI l H' d S hd),(λl H' D as ts S nD hD rx _ _ _ ok e=>?_)⟩)⟩
    exact ⟨_,rfl,_,rfl,kQ l H' D as ts S nD hD rx ok e⟩
  · have z:¬n<0:=z
    obtain ⟨Dn,Mn,qA,dn0,dn1,mn1,n60,pr,k⟩:=kP ⋯
    have en:((n.toNat:Nat):Int)=n:=by omega
    have tl:TabL κ H a rs A A.length:=⟨ta.l,ta.r,by rw[sq]; exact ta.w,ta.n1,ta.n9,ta.n9⟩
    have n1:=ta.n1
    refine ⟨_,rfl,_,rfl,_,rfl,κ,sk,a,rs,A,n.toNat,Dn,Mn,(by rw[en]; rfl),hk,tl,⋯,qA,dn0,dn1,mn1,⋯,(by rw[sq]; exact pr),λH1 tp D rs1 T b x S1 htp td pt szt xne wb=>?_⟩
    obtain ⟨M',qT,m1⟩:=szt.get (Q4 _) (by rw[sq]; exact pr) n1 ⋯
    have bT:AllR (B1 κ) T:=λf hf y hy=>ZkY (D:=1) ∅ ∅ (Q0 m1 ∅) (qT f hf y hy)
    obtain ⟨Cn,dxn,fsn,psn,dvn,spn,e1,e2,e3,e4,rfl,e5⟩:=mnC κ H1 sk (hk.same S1)
    refine ⟨_,rfl,_,rfl,sk,Cn,dxn,fsn,psn,_,spn,rfl,e1,e2,e3.mono ⋯,e4,_,rfl,tp,_,1,_,rfl,rfl,SqT.of htp,rfl,e5 H1 b (x^n.toNat) _ _ (Same.refl _) wb.n wb.p (Q0 wb.l ∅) wb.r λv4 H4 S4 n4=>?_⟩
    have hqy:QN κ ((1:Nat):Int) (10^250) (x^n.toNat):=(ZgH wb.n).mono wb.l
    obtain ⟨y,y0,yN,qy⟩:=ZmM (E:=1) (N:=10^250) ∅ ∅ hqy wb.ne
    have bi:B1 κ (Fd.inv (x^n.toNat)):=qy.b1 ⋯ (by rw[Qt]; exact Qc yN (Q5 (show 10^250<2^1000 by decide) (Qa ∅ ∅))) (Q5 (show 1<2^1000 by decide) (Qa ∅ ∅))
    have qF:=ZnP (D:=y) (E:=1) (M:=1) (N:=M') qy qT
    refine ⟨_,rfl,tp,_,0,_,rfl,rfl,SqT.of (S4 _ _ htp),rfl,κ,sk,D,v4,_,rs1,T,A.length,rfl,(hk.same S1).same S4,n4,bi,td.same S4,bT,λH5 D5 rs5 S5 t5 fr nD5 nd5 nin5=>?_⟩
    have S05:=S1.trans (S4.trans S5)
    refine k H5 D5 rs5 _ (y*1) (1*M') S05 t5.l t5.r (by rw[ZcC,pt.l,sq]) (by rw[<-sq]; exact t5.w) (λi j hi hj=>?_) qF ⋯ ⋯ ⋯ nd5 nin5 (λb hb=>S1.free (S4.free (fr b hb))) (S1.free (S4.free nD5))
    rw[<-sq] at hi hj ⊢
    rw[Zk4 _ pt.w (by rw[pt.l]; exact hi) hj,pt.e i j hi hj]
    have:=Fd.mul_inv (x^n.toNat) wb.ne
    generalize pw (ent A) A.length n.toNat i j=q at *
    generalize x^n.toNat=u at *
    grind
end
end My
namespace My
open PySem L2 PyProof.Rows
section
variable{κ:KX}
structure Wek (R:List (List κ.F)) (n j:Nat) (ls:List Nat):Prop where
  le:ls.length<=n
  lt:∀k<ls.length,ls.getD k 0<j
  inc:∀k k',k<k'->k'<ls.length->ls.getD k 0<ls.getD k' 0
  piv:∀k<ls.length,ent R k (ls.getD k 0)≠0
  pre:∀k<ls.length,∀c<ls.getD k 0,ent R k c=0
  out:∀i,ls.length<=i->i<n->∀c<j,ent R i c=0
theorem ZnT{R:List (List κ.F)}{n:Nat}:Wek R n 0 []:=⟨Qk _,λk h=>by simp at h,λk k' _ h=>by simp at h,λk h=>by simp at h,λk h=>by simp at h,λi _ _ c hc=>by omega⟩
theorem Wek.low{R:List (List κ.F)}{n j:Nat}{ls:List Nat}(h:Wek R n j ls){k i:Nat}(hk:k<ls.length)(ki:k<i)(hi:i<n):ent R i (ls.getD k 0)=0:=by
  by_cases q:i<ls.length
  · exact h.pre i q _ (h.inc k i ki q)
  · exact h.out i ⋯ hi _ (h.lt k hk)
theorem Wek.skip{R:List (List κ.F)}{n j:Nat}{ls:List Nat}(h:Wek R n j ls)(z:∀i,ls.length<=i->i<n->ent R i j=0):Wek R n (j+1) ls :=
  ⟨h.le,λk hk=>Nat.lt_succ_of_lt (h.lt k hk),h.inc,h.piv,h.pre,λi a b c hc=>by
    by_cases e:c=j
    · rw[e]; exact z i a b
    · exact h.out i a b c ⋯⟩
def mvT{α:Type}(R:List α)(q at_:Nat):List α:=match R[at_]? with
  | some f=>(R.eraseIdx at_).take q++f::(R.eraseIdx at_).drop q
  | none=>R
theorem ZgN{α:Type}{R:List α}{q a:Nat}(h:q<=a)(ha:a<R.length):(mvT R q a).length=R.length:=by
  unfold mvT
  rw[Q2 ha]
  simp only[Qd,U3,Wp,List.length_drop,List.length_eraseIdx,if_pos ha]
  omega
theorem Zc7{α:Type}{R:List α}{q a:Nat}(h:q<=a)(ha:a<R.length)(i:Nat):(mvT R q a)[i]?=if i<q then R[i]? else if i=q then R[a]? else if i<=a then R[i-1]? else R[i]?:=by
  unfold mvT
  rw[Q2 ha]
  show ((R.eraseIdx a).take q++R[a]::(R.eraseIdx a).drop q)[i]?=_
  have le:((R.eraseIdx a).take q).length=q:=by
    rw[Wp,List.length_eraseIdx,if_pos ha]; omega
  by_cases i1:i<q
  · rw[Wh ⋯,List.getElem?_take,if_pos i1,List.getElem?_eraseIdx,if_pos ⋯,if_pos i1]
  · rw[Wg ⋯,le,if_neg i1]
    by_cases i2:i=q
    · rw[i2,Um,if_pos rfl]
      rfl
    · rw[if_neg i2,show i-q=(i-q-1)+1 by omega,List.getElem?_cons_succ,List.getElem?_drop,List.getElem?_eraseIdx]
      by_cases i3:i<=a
      · rw[if_pos ⋯,if_pos i3]
        congr 1; omega
      · rw[if_neg ⋯,if_neg i3]
        congr 1; omega
theorem Zie{q:Nat}:∀ {d:Nat} {R:List (List κ.F)},q+d<R.length->∃ts:List (Tn κ),(∀t∈ts,t.ok R.length)/\ZaE ts R=mvT R q (q+d)
  | 0,R,h=>by
    refine ⟨[],λt ht=>(nomatch ht),?_⟩
    apply List.ext_getElem?
    intro i
    rw[Zc7 (q:=q) (a:=q+0) ⋯ h]
    show R[i]?=_
    split
    · rfl
    · split
      · rename_i e; rw[e]; rfl
      · rw[if_neg ⋯]
  | d+1,R,h=>by
    have hs:∀i,(doT (.swap ((q+d:Nat):Int) ((q+(d+1):Nat):Int):Tn κ) R)[i]?=if i=q+(d+1) then R[q+d]? else if i=q+d then R[q+(d+1)]? else R[i]?:=λi=>by
      show ((R.set ((q+d:Nat):Int).toNat (R.getD ((q+(d+1):Nat):Int).toNat [])).set ((q+(d+1):Nat):Int).toNat (R.getD ((q+d:Nat):Int).toNat []))[i]?=_
      rw[Q7,Q7,Wj,W7]
      by_cases e:i=q+(d+1)
      · rw[if_pos e.symm,if_pos h,if_pos e,Q3,Q2 ⋯]; rfl
      · rw[if_neg (Ne.symm e),if_neg e,Wj]
        by_cases e2:i=q+d
        · rw[if_pos e2.symm,if_pos ⋯,if_pos e2,Q3,Q2 h]; rfl
        · rw[if_neg (Ne.symm e2),if_neg e2]
    have l1:=Zc0 (.swap ((q+d:Nat):Int) ((q+(d+1):Nat):Int):Tn κ) R
    generalize hR1:doT (.swap ((q+d:Nat):Int) ((q+(d+1):Nat):Int):Tn κ) R=R1 at *
    obtain ⟨ts,ok,e⟩:=Zie (q:=q) (d:=d) (R:=R1) ⋯
    refine ⟨.swap ((q+d:Nat):Int) ((q+(d+1):Nat):Int)::ts,λt ht=>?_,?_⟩
    · rcases Q8.mp ht with z | z
      · rw[z]; exact ⟨⟨⋯,⋯⟩,⟨⋯,⋯⟩,⋯⟩
      · rw[<-l1]; exact ok t z
    · show ZaE ts (doT _ R)=_
      rw[hR1,e]
      apply List.ext_getElem?
      intro i
      rw[Zc7 ⋯ ⋯,Zc7 ⋯ h]
      by_cases i1:i<q
      · rw[if_pos i1,if_pos i1,hs,if_neg ⋯,if_neg ⋯]
      · rw[if_neg i1,if_neg i1]
        by_cases i2:i=q
        · rw[if_pos i2,if_pos i2,hs,if_neg ⋯,if_pos rfl]
        · rw[if_neg i2,if_neg i2]
          by_cases i3:i<=q+d
          · rw[if_pos i3,if_pos ⋯,hs,if_neg ⋯,if_neg ⋯]
          · rw[if_neg i3,hs]
            by_cases i4:i=q+(d+1)
            · rw[if_pos i4,if_pos ⋯]
              congr 1; omega
            · rw[if_neg i4,if_neg ⋯,if_neg ⋯]
theorem ZnU{m:Nat}{R:List (List κ.F)}{q a:Nat}(h:q<=a)(ha:a<R.length)(wd:Wid m R):Wid m (mvT R q a):=by
  obtain ⟨ts,ok,e⟩:=Zie (q:=q) (d:=a-q) (R:=R) ⋯
  rw[show q+(a-q)=a by omega] at e
  rw[<-e]
  exact ZaX wd ok
noncomputable def elR(R:List (List κ.F))(q j i:Nat):List κ.F:=List.zipWith (λx y=>ent R q j*(0-1)*x+ent R i j*y) (R.getD i []) (R.getD q [])
theorem ZnV{m:Nat}{R:List (List κ.F)}{q j i:Nat}(wd:Wid m R)(hq:q<R.length)(hi:i<R.length)(ne:i≠q)(p:ent R q j≠0):∃ts:List (Tn κ),(∀t∈ts,t.ok R.length)/\ZaE ts R=R.set i (elR R q j i):=by
  have p':ent R q j*(0-1)≠0:=λz=>p (by grind)
  unfold elR
  generalize ent R q j*(0-1)=a at *
  generalize ent R i j=b
  refine ⟨[.scale (i:Int) a,.add (i:Int) (q:Int) b],λt ht=>?_,?_⟩
  · rcases Q8.mp ht with z | z
    · rw[z]; exact ⟨⟨⋯,⋯⟩,p'⟩
    · rw[Q6.mp z]; exact ⟨⟨⋯,⋯⟩,⟨⋯,⋯⟩,⋯⟩
  · show doT (.add (i:Int) (q:Int) b) (doT (.scale (i:Int) a) R)=_
    show (R.set (i:Int).toNat ((R.getD (i:Int).toNat []).map (a * ·))).set (i:Int).toNat (List.zipWith (· + ·) ((R.set (i:Int).toNat ((R.getD (i:Int).toNat []).map (a * ·))).getD (i:Int).toNat []) (((R.set (i:Int).toNat ((R.getD (i:Int).toNat []).map (a * ·))).getD (q:Int).toNat []).map (b * ·)))=_
    rw[Q7,Q7,List.set_set,ZaQ hi,Zbw ne]
    congr 1
    rw[List.zipWith_map_left,List.zipWith_map_right]
theorem ZnW{m:Nat}{R:List (List κ.F)}{q j i:Nat}(wd:Wid m R)(hq:q<R.length)(hi:i<R.length):(elR R q j i).length=m:=by
  unfold elR
  rw[List.length_zipWith,wd.get hi,wd.get hq,Nat.min_self]
theorem ZnX{m:Nat}{R:List (List κ.F)}{q j i c:Nat}(wd:Wid m R)(hq:q<R.length)(hi:i<R.length)(hc:c<m):(elR R q j i).getD c 0=ent R q j*(0-1)*ent R i c+ent R i j*ent R q c:=by
  unfold elR
  have l1:=wd.get hi
  have l2:=wd.get hq
  rw[Q3,List.getElem?_zipWith,Q2 (show c<(R.getD i []).length by omega),Q2 (show c<(R.getD q []).length by omega)]
  show ent R q j*(0-1)*(R.getD i [])[c]+ent R i j*(R.getD q [])[c]=_
  have e1:ent R i c=(R.getD i [])[c]:=by unfold ent; rw[Q3 (l:=R.getD i []),Q2 ⋯]; rfl
  have e2:ent R q c=(R.getD q [])[c]:=by unfold ent; rw[Q3 (l:=R.getD q []),Q2 ⋯]; rfl
  rw[e1,e2]
theorem Wek.step{m:Nat}{R R2:List (List κ.F)}{n j a:Nat}{ls:List Nat}(h:Wek R n j ls)(hn:R.length=n)(jm:j<m)(qa:ls.length<=a)(ha:a<n)(p:ent R a j≠0)
    (e1:∀i≤ls.length,∀c<m,ent R2 i c=ent (mvT R ls.length a) i c)
    (e2:∀i,ls.length<i->i<n->∀c<m,ent R2 i c=ent R a j*(0-1)*ent (mvT R ls.length a) i c+ent (mvT R ls.length a) i j*ent R a c):Wek R2 n (j+1) (ls++[j]):=by
  have g:∀i c,ent (mvT R ls.length a) i c=if i<ls.length then ent R i c else if i=ls.length then ent R a c else if i<=a then ent R (i-1) c else ent R i c:=λi c=>by
    unfold ent
    rw[show (mvT R ls.length a).getD i []=((mvT R ls.length a)[i]?).getD [] from Q3,Zc7 qa ⋯]
    split
    · rw[Q3 (l:=R) (a:=[])]
    · split
      · rw[Q3 (l:=R) (a:=[])]
      · split
        · rw[Q3 (l:=R) (a:=[])]
        · rw[Q3 (l:=R) (a:=[])]
  have gl:∀k,k<ls.length->(ls++[j]).getD k 0=ls.getD k 0:=λk hk=>by
    rw[Q3,Wh hk,<-Q3]
  have gq:(ls++[j]).getD ls.length 0=j:=by
    rw[Q3,Wg (Q4 _),Um]; rfl
  have ll:(ls++[j]).length=ls.length+1:=by rw[Qd]; rfl
  refine ⟨⋯,λk hk=>?_,λk k' kk hk=>?_,λk hk=>?_,λk hk c hc=>?_,λi hi hin c hc=>?_⟩
  · by_cases e:k=ls.length
    · rw[e,gq]; omega
    · rw[gl k ⋯]; have:=h.lt k ⋯; omega
  · by_cases e:k'=ls.length
    · rw[e,gq,gl k ⋯]; exact h.lt k ⋯
    · rw[gl k ⋯,gl k' ⋯]; exact h.inc k k' kk ⋯
  · by_cases e:k=ls.length
    · rw[e,gq,e1 _ (Q4 _) j jm,g,if_neg ⋯,if_pos rfl]; exact p
    · have:=h.lt k ⋯
      rw[gl k ⋯,e1 k ⋯ _ ⋯,g,if_pos ⋯]; exact h.piv k ⋯
  · by_cases e:k=ls.length
    · rw[e,gq] at hc
      rw[e,e1 _ (Q4 _) c ⋯,g,if_neg ⋯,if_pos rfl]
      exact h.out a qa ha c hc
    · rw[gl k ⋯] at hc
      have:=h.lt k ⋯
      rw[e1 k ⋯ c ⋯,g,if_pos ⋯]; exact h.pre k ⋯ c hc
  · rw[ll] at hi
    rw[e2 i ⋯ hin c ⋯]
    by_cases e:c=j
    · rw[e]; grind
    · have z1:ent (mvT R ls.length a) i c=0:=by
        rw[g,if_neg ⋯,if_neg ⋯]
        split
        · exact h.out _ ⋯ ⋯ c ⋯
        · exact h.out _ ⋯ ⋯ c ⋯
      have z2:ent R a c=0:=h.out a qa ha c ⋯
      rw[z1,z2]; grind
theorem Zk9{n m:Nat}{ls:List Nat}:∀p,p<=ls.length->∀ {R:List (List κ.F)},R.length=n->Wid m R->Wek R n m ls->∃ts:List (Tn κ),(∀t∈ts,t.ok n)/\Wek (ZaE ts R) n m ls/\∀k<p,∀i<n,ent (ZaE ts R) i (ls.getD k 0)=if i=k then 1 else 0
  | 0,_,R,_,_,h=>⟨[],λt ht=>(nomatch ht),h,λk hk=>by omega⟩
  | p+1,hp,R,hn,wd,h=>by
    obtain ⟨ts,ok,hw,hc⟩:=Zk9 p ⋯ hn wd h
    have l1:(ZaE ts R).length=n:=by rw[ZaP,hn]
    have w1:Wid m (ZaE ts R):=ZaX wd (by rw[hn]; exact ok)
    generalize hR1:ZaE ts R=R1 at *
    have pn:p<n:=by have:=h.le; omega
    have p0:=hw.piv p ⋯
    have lp:=hw.lt p ⋯
    have okS:(.scale (p:Int) (Fd.inv (ent R1 p (ls.getD p 0))):Tn κ).ok n:=⟨⟨⋯,⋯⟩,ZkK p0⟩
    have eS:∀i c,ent (doT (.scale (p:Int) (Fd.inv (ent R1 p (ls.getD p 0)))) R1) i c=if i=p then Fd.inv (ent R1 p (ls.getD p 0))*ent R1 i c else ent R1 i c:=λi c=>by
      have:=Zbm (R:=R1) (a:=(p:Int)) (c:=Fd.inv (ent R1 p (ls.getD p 0))) (by rw[Q7]; omega) i c
      rw[Q7] at this
      exact this
    have l2:=Zc0 (.scale (p:Int) (Fd.inv (ent R1 p (ls.getD p 0))):Tn κ) R1
    have w2:Wid m (doT (.scale (p:Int) (Fd.inv (ent R1 p (ls.getD p 0)))) R1):=ZdE w1 (by rw[l1]; exact okS)
    have hm:=Fd.mul_inv _ p0
    have i0:=ZkK p0
    generalize hg:Fd.inv (ent R1 p (ls.getD p 0))=g at *
    generalize hR2:doT (.scale (p:Int) g) R1=R2 at *
    have W2:Wek R2 n m ls:=⟨hw.le,hw.lt,hw.inc,λk hk=>by
        rw[eS]
        split
        · rename_i e; rw[e]; intro z
          have:ent R1 p (ls.getD p 0)*g=1:=hm
          have e1:(1:κ.F)=0:=by rw[<-this]; grind
          exact Fd.zne e1.symm
        · exact hw.piv k hk,λk hk c hcc=>by
        rw[eS,hw.pre k hk c hcc]
        split
        · grind
        · rfl,λi a b c hcc=>by
        rw[eS,hw.out i a b c hcc]
        split
        · grind
        · rfl⟩
    have C2:∀k<p,∀i<n,ent R2 i (ls.getD k 0)=if i=k then 1 else 0:=λk hk i hi=>by
      rw[eS,hc k hk i hi]
      split
      · rename_i e; rw[if_neg ⋯]; grind
      · rfl
    have P2:ent R2 p (ls.getD p 0)=1:=by
      rw[eS,if_pos rfl]
      have:ent R1 p (ls.getD p 0)*g=1:=hm
      rw[<-this]; grind
    have inner:∀r,r<=p->∃us:List (Tn κ),(∀t∈us,t.ok n)/\Wek (ZaE us R2) n m ls/\(∀k<p,∀i<n,ent (ZaE us R2) i (ls.getD k 0)=if i=k then 1 else 0)/\ent (ZaE us R2) p (ls.getD p 0)=1/\∀i<r,ent (ZaE us R2) i (ls.getD p 0)=0:=by
      intro r
      induction r with
      | zero=>intro _; exact ⟨[],λt ht=>(nomatch ht),W2,C2,P2,λi hi=>by omega⟩
      | succ r ih =>
        intro hr
        obtain ⟨us,oku,Wu,Cu,Pu,Zu⟩:=ih ⋯
        have l3:(ZaE us R2).length=n:=by rw[ZaP]; omega
        have w3:Wid m (ZaE us R2):=ZaX w2 (by rw[l2,l1]; exact oku)
        generalize hR3:ZaE us R2=R3 at *
        have okA:(.add (r:Int) (p:Int) (0-ent R3 r (ls.getD p 0)):Tn κ).ok n:=⟨⟨⋯,⋯⟩,⟨⋯,⋯⟩,⋯⟩
        have eA:∀i c,ent (doT (.add (r:Int) (p:Int) (0-ent R3 r (ls.getD p 0))) R3) i c=if i=r then ent R3 i c+(0-ent R3 r (ls.getD p 0))*ent R3 p c else ent R3 i c:=λi c=>by
          have:=Zej (R:=R3) (a:=(r:Int)) (b:=(p:Int)) (c:=0-ent R3 r (ls.getD p 0)) w3 (by rw[Q7]; omega) (by rw[Q7]; omega) i c
          rw[Q7,Q7] at this
          exact this
        refine ⟨us++[.add (r:Int) (p:Int) (0-ent R3 r (ls.getD p 0))],λt ht=>?_,?_⟩
        · rcases Qf.mp ht with z | z
          · exact oku t z
          · rw[Q6.mp z]; exact okA
        rw[Zcj,hR3]
        generalize hb:ent R3 r (ls.getD p 0)=b at *
        generalize hR4:doT (.add (r:Int) (p:Int) (0-b)) R3=R4 at *
        have rl:r<ls.length:=by omega
        have pr:∀c,c<ls.getD r 0->ent R3 p c=0:=λc hcc=>Wu.pre p ⋯ c (by have:=Wu.inc r p ⋯ ⋯; omega)
        refine ⟨⟨Wu.le,Wu.lt,Wu.inc,λk hk=>?_,λk hk c hcc=>?_,λi a b' c hcc=>?_⟩,λk hk i hi=>?_,?_,λi hi=>?_⟩
        · rw[eA]
          split
          · rename_i e
            rw[e,Cu r ⋯ r ⋯,if_pos rfl,Cu r ⋯ p ⋯,if_neg ⋯]
            intro z
            have:(1:κ.F)=0:=by rw[<-z]; grind
            exact Fd.zne this.symm
          · exact Wu.piv k hk
        · rw[eA,Wu.pre k hk c hcc]
          split
          · rename_i e; rw[e] at hcc; rw[pr c hcc]; grind
          · rfl
        · rw[eA,if_neg ⋯]; exact Wu.out i a b' c hcc
        · rw[eA,Cu k hk i hi]
          split
          · rw[Cu k hk p ⋯,if_neg (show ¬p=k by omega)]; grind
          · rfl
        · rw[eA,if_neg ⋯]; exact Pu
        · rw[eA]
          split
          · rename_i e; rw[e,hb,Pu]; grind
          · exact Zu i ⋯
    obtain ⟨us,oku,Wu,Cu,Pu,Zu⟩:=inner p (Q4 _)
    refine ⟨ts ++ .scale (p:Int) g::us,λt ht=>?_,?_⟩
    · rcases Qf.mp ht with z | z
      · exact ok t z
      · rcases Q8.mp z with z | z
        · rw[z]; exact okS
        · exact oku t z
    rw[Zbd,hR1]
    show Wek (ZaE us (doT _ R1)) n m ls/\_
    rw[show ZaE (.scale (p:Int) g::us) R1=ZaE us (doT (.scale (p:Int) g) R1) from rfl,hR2]
    refine ⟨Wu,λk hk i hi=>?_⟩
    by_cases e:k=p
    · rw[e]
      by_cases e2:i=p
      · rw[if_pos e2,e2]; exact Pu
      · rw[if_neg e2]
        rcases Nat.lt_or_gt_of_ne e2 with q | q
        · exact Zu i q
        · exact Wu.low ⋯ q hi
    · exact Cu k ⋯ i hi
theorem ZnY{n m:Nat}{ls:List Nat}{R:List (List κ.F)}(hn:R.length=n)(wd:Wid m R)(h:Wek R n m ls):∃(ts:List (Tn κ)) (R':List (List κ.F)),(∀t∈ts,t.ok n)/\R=ZaE ts R'/\R'.length=n/\Wid m R'/\Ech R' n m ls 1:=by
  obtain ⟨ts,ok,hw,hc⟩:=Zk9 ls.length (Q4 _) hn wd h
  have okR:∀t∈ts,t.ok R.length:=by rw[hn]; exact ok
  refine ⟨ts.reverse.map ZmH,ZaE ts R,λt ht=>?_,(Zck wd okR).symm,by rw[ZaP,hn],ZaX wd okR,⟨hw.le,hw.lt,hw.inc,λz=>Fd.zne z.symm,hc,hw.out,hw.pre⟩⟩
  obtain ⟨u,hu,rfl⟩:=Qi.mp ht
  exact ZkL (ok u (List.mem_reverse.mp hu))
end
end My
namespace My
open PySem L2 PyProof.Rows
section
variable{κ:KX}
def eSz:Nat->Nat->Nat
  | 1,M=>M
  | 2,M=>2*(M*M)
  | _,M=>6*(M*M*M)
def cSz:Nat->Nat->Nat
  | 1,_=>1
  | 2,M=>M
  | _,M=>2*(M*M)
theorem Zqk{x y z a b c d e f g h i p q r:κ.F}(h0:x*a+y*d+z*g=p)(h1:x*b+y*e+z*h=q)(h2:x*c+y*f+z*i=r) :
    x*(a*(e*i-f*h)-b*(d*i-f*g)+c*(d*h-e*g))=p*(e*i-f*h)+q*(f*g-d*i)+r*(d*h-e*g) ∧
    y*(a*(e*i-f*h)-b*(d*i-f*g)+c*(d*h-e*g))=p*(c*h-b*i)+q*(a*i-c*g)+r*(b*g-a*h) ∧
    z*(a*(e*i-f*h)-b*(d*i-f*g)+c*(d*h-e*g))=p*(b*f-c*e)+q*(c*d-a*f)+r*(a*e-b*d):=by
  subst h0 h1 h2
  refine ⟨by grind,by grind,by grind⟩
theorem ZoM{a b c d e f x y z u v w:κ.F}(m1:b*f-c*e=0)(m2:c*d-a*f=0)(m3:a*e-b*d=0)
    (h0:a*x+b*y+c*z=1) (h1:a*u+b*v+c*w=0) (h3:d*u+e*v+f*w=1) (h4:d*x+e*y+f*z=0):(1:κ.F)=0:=by
  have e:(a*x+b*y+c*z)*(d*u+e*v+f*w)-(a*u+b*v+c*w)*(d*x+e*y+f*z)=(b*f-c*e)*(y*w-z*v)+(c*d-a*f)*(z*u-x*w)+(a*e-b*d)*(x*v-y*u):=by grind
  rw[m1,m2,m3,h0,h1,h3,h4] at e
  grind
theorem Zql{x y a b c d p q:κ.F}(h0:x*a+y*c=p)(h1:x*b+y*d=q):x*(a*d-b*c)=p*d-q*c/\y*(a*d-b*c)=q*a-p*b:=by
  subst h0 h1
  exact ⟨by grind,by grind⟩
theorem ZnZ{x d c:κ.F}(h:x*d=c)(hd:d≠0):x=c*Fd.inv d:=by
  have:=Fd.mul_inv d hd
  rw[<-h]
  grind
theorem ml2{D:Nat}{M N:Nat}{x y:κ.F}{e:Nat}(h:QN κ (D:Int) M x)(g:QN κ ((D^e:Nat):Int) N y):QN κ ((D^(e+1):Nat):Int) (M*N) (x*y):=by
  rw[Wc,Wi]
  exact h.mulN g
theorem ZgO{s:Nat}{B:Nat->Nat->κ.F}{D N C:Nat}{det:κ.F}{cf:Nat->Nat->κ.F}(hD:0<D)(hN:0<N)(qd:QN κ ((D^s:Nat):Int) N det)(d0:det≠0)(hB:∀i j,i<s->j<s->B i j*det=cf i j)(qc:∀i j,i<s->j<s->QN κ ((D^(s-1):Nat):Int) C (cf i j)) :
    ∃E:Nat,0<E/\E<=D^(s-1)*N/\∀i j,i<s->j<s->QN κ (E:Int) (C*D^s) (B i j):=by
  obtain ⟨a,a0,aN,qa⟩:=ZmM (U1 hD) hN qd d0
  refine ⟨D^(s-1)*a,Wa (U1 hD) a0,Ui _ aN,λi j hi hj=>?_⟩
  rw[ZnZ (hB i j hi hj) d0]
  exact (qc i j hi hj).mulN qa
theorem ZoN{A B:Nat->Nat->κ.F}{s D M:Nat}(s1:1<=s)(s3:s<=3)(hD:0<D)(hM:0<M)(qA:∀i j,i<s->j<s->QN κ (D:Int) M (A i j))(h1:∀i j,i<s->j<s->Sg (λl=>B i l*A l j) s=if i=j then 1 else 0)(h2:∀i j,i<s->j<s->Sg (λl=>A i l*B l j) s=if i=j then 1 else 0) :
    ∃E:Nat,0<E/\E<=D^(s-1)*eSz s M/\∀i j,i<s->j<s->QN κ (E:Int) (cSz s M*D^s) (B i j):=by
  have hD':(0:Int)<(D:Int):=by omega
  have q1:∀i j,i<s->j<s->QN κ ((D^1:Nat):Int) M (A i j):=λi j hi hj=>by rw[Nat.pow_one]; exact qA i j hi hj
  have p2:(0:Int)<((D^2:Nat):Int):=by have:=U1 hD (n:=2); omega
  have p3:(0:Int)<((D^3:Nat):Int):=by have:=U1 hD (n:=3); omega
  obtain rfl | rfl | rfl:s=1\/s=2\/s=3:=by omega
  · have e:B 0 0*A 0 0=1:=by
      have:=h1 0 0 ∅ ∅
      rw[if_pos rfl] at this
      rw[<-this]
      show _=0+B 0 0*A 0 0
      grind
    refine ZgO (N:=M) (det:=A 0 0) (cf:=λ_ _=>1) hD hM (q1 0 0 ∅ ∅) (λz=>?_) (λi j hi hj=>?_) (λi j hi hj=>?_)
    · rw[z] at e
      exact ZgK (κ:=κ) (by rw[<-e]; grind)
    · obtain rfl:i=0:=by omega
      obtain rfl:j=0:=by omega
      exact e
    · exact ZiP
  · have g:∀i j,i<2->j<2->B i 0*A 0 j+B i 1*A 1 j=if i=j then 1 else 0:=λi j hi hj=>by
      rw[<-h1 i j hi hj]
      show _=0+B i 0*A 0 j+B i 1*A 1 j
      grind
    have c:=λi (hi:i<2)=>Zql (g i 0 hi ∅) (g i 1 hi ∅)
    have qd:QN κ ((D^2:Nat):Int) (M*M+M*M) (A 0 0*A 1 1-A 0 1*A 1 0):=QN.sub p2 (ml2 (qA 0 0 ∅ ∅) (q1 1 1 ∅ ∅)) (ml2 (qA 0 1 ∅ ∅) (q1 1 0 ∅ ∅))
    have d0:A 0 0*A 1 1-A 0 1*A 1 0≠0:=λz=>by
      have a1:=(c 0 ∅).1
      have a2:=(c 1 ∅).1
      have g0:=g 0 0 ∅ ∅
      have a3:=(c 1 ∅).2
      rw[z,if_pos rfl,if_neg ∅] at a1
      rw[z,if_pos rfl,if_neg ∅] at a2 a3
      rw[if_pos rfl] at g0
      exact ZgK (κ:=κ) (by grind)
    generalize A 0 0*A 1 1-A 0 1*A 1 0=det at *
    refine ZgO (N:=eSz 2 M) (C:=cSz 2 M) (det:=det) (cf:=λi j=>B i j*det) hD (by show 0<2*(M*M); have:=Wa hM hM; omega) (qd.mono (by show _<=2*(M*M); omega)) d0 (λi j hi hj=>rfl) (λi j hi hj=>?_)
    show QN κ ((D^1:Nat):Int) M (B i j*det)
    have z0:QN κ ((D^1:Nat):Int) M (0:κ.F):=QN.zero
    have e4:=q1 1 1 ∅ ∅
    have e3:=QN.neg (q1 1 0 ∅ ∅)
    have e2:=QN.neg (q1 0 1 ∅ ∅)
    have e1:=q1 0 0 ∅ ∅
    obtain ⟨ca,cb⟩:=c i hi
    obtain rfl | rfl:j=0\/j=1:=by omega
    · rw[ca]
      obtain rfl | rfl:i=0\/i=1:=by omega
      · rw[if_pos rfl,if_neg ∅]
        have:(1:κ.F)*A 1 1-0*A 1 0=A 1 1:=by grind
        rw[this]; exact e4
      · rw[if_pos rfl,if_neg ∅]
        have:(0:κ.F)*A 1 1-1*A 1 0=0-A 1 0:=by grind
        rw[this]; exact e3
    · rw[cb]
      obtain rfl | rfl:i=0\/i=1:=by omega
      · rw[if_pos rfl,if_neg ∅]
        have:(0:κ.F)*A 0 0-1*A 0 1=0-A 0 1:=by grind
        rw[this]; exact e2
      · rw[if_pos rfl,if_neg ∅]
        have:(1:κ.F)*A 0 0-0*A 0 1=A 0 0:=by grind
        rw[this]; exact e1
  · have g:∀i j,i<3->j<3->B i 0*A 0 j+B i 1*A 1 j+B i 2*A 2 j=if i=j then 1 else 0:=λi j hi hj=>by
      rw[<-h1 i j hi hj]
      show _=0+B i 0*A 0 j+B i 1*A 1 j+B i 2*A 2 j
      grind
    have k:∀i j,i<3->j<3->A i 0*B 0 j+A i 1*B 1 j+A i 2*B 2 j=if i=j then 1 else 0:=λi j hi hj=>by
      rw[<-h2 i j hi hj]
      show _=0+A i 0*B 0 j+A i 1*B 1 j+A i 2*B 2 j
      grind
    have c:=λi (hi:i<3)=>Zqk (g i 0 hi ∅) (g i 1 hi ∅) (g i 2 hi ∅)
    have mn:∀a b a' b' c d c' d',(a<3/\b<3)/\(a'<3/\b'<3)/\(c<3/\d<3)/\c'<3/\d'<3->QN κ ((D^2:Nat):Int) (2*(M*M)) (A a b*A a' b'-A c d*A c' d'):=λa b a' b' c d c' d' ⟨h1,h2,h3,h4⟩ =>
      (QN.sub p2 (ml2 (qA a b h1.1 h1.2) (q1 a' b' h2.1 h2.2)) (ml2 (qA c d h3.1 h3.2) (q1 c' d' h4.1 h4.2))).mono ⋯
    have qd:=QN.add p3 (QN.sub p3 (ml2 (qA 0 0 ∅ ∅) (mn 1 1 2 2 1 2 2 1 ∅)) (ml2 (qA 0 1 ∅ ∅) (mn 1 0 2 2 1 2 2 0 ∅))) (ml2 (qA 0 2 ∅ ∅) (mn 1 0 2 1 1 1 2 0 ∅))
    have d0:A 0 0*(A 1 1*A 2 2-A 1 2*A 2 1)-A 0 1*(A 1 0*A 2 2-A 1 2*A 2 0)+A 0 2*(A 1 0*A 2 1-A 1 1*A 2 0)≠0:=λz=>by
      have a0:=(c 0 ∅).2.2
      have a1:=(c 1 ∅).2.2
      have a2:=(c 2 ∅).2.2
      rw[z,if_pos rfl,if_neg ∅,if_neg ∅] at a0 a1 a2
      have b0:=k 0 0 ∅ ∅
      have b1:=k 0 1 ∅ ∅
      have b3:=k 1 1 ∅ ∅
      have b4:=k 1 0 ∅ ∅
      rw[if_pos rfl] at b0 b3
      rw[if_neg ∅] at b1 b4
      exact ZgK (ZoM (by grind) (by grind) (by grind) b0 b1 b3 b4)
    generalize A 0 0*(A 1 1*A 2 2-A 1 2*A 2 1)-A 0 1*(A 1 0*A 2 2-A 1 2*A 2 0)+A 0 2*(A 1 0*A 2 1-A 1 1*A 2 0)=det at *
    have eM:M*(2*(M*M))=2*(M*M*M):=by grind
    refine ZgO (N:=eSz 3 M) (C:=cSz 3 M) (det:=det) (cf:=λi j=>B i j*det) hD (by show 0<6*(M*M*M); have:=Wa (Wa hM hM) hM; omega) (qd.mono (by show _<=6*(M*M*M); omega)) d0 (λi j hi hj=>rfl) (λi j hi hj=>?_)
    show QN κ ((D^2:Nat):Int) (2*(M*M)) (B i j*det)
    have one:∀x y z:κ.F,QN κ ((D^2:Nat):Int) (2*(M*M)) x->QN κ ((D^2:Nat):Int) (2*(M*M)) y->QN κ ((D^2:Nat):Int) (2*(M*M)) z->QN κ ((D^2:Nat):Int) (2*(M*M)) ((if i=0 then 1 else 0)*x+(if i=1 then 1 else 0)*y+(if i=2 then 1 else 0)*z):=λx y z hx hy hz=>by
      obtain rfl | rfl | rfl:i=0\/i=1\/i=2:=by omega
      · rw[if_pos rfl,if_neg ∅,if_neg ∅]
        have:(1:κ.F)*x+0*y+0*z=x:=by grind
        rw[this]; exact hx
      · rw[if_pos rfl,if_neg ∅,if_neg ∅]
        have:(0:κ.F)*x+1*y+0*z=y:=by grind
        rw[this]; exact hy
      · rw[if_pos rfl,if_neg ∅,if_neg ∅]
        have:(0:κ.F)*x+0*y+1*z=z:=by grind
        rw[this]; exact hz
    obtain ⟨ca,cb,cc⟩:=c i hi
    obtain rfl | rfl | rfl:j=0\/j=1\/j=2:=by omega
    · rw[ca]; exact one _ _ _ (mn _ _ _ _ _ _ _ _ ∅) (mn _ _ _ _ _ _ _ _ ∅) (mn _ _ _ _ _ _ _ _ ∅)
    · rw[cb]; exact one _ _ _ (mn _ _ _ _ _ _ _ _ ∅) (mn _ _ _ _ _ _ _ _ ∅) (mn _ _ _ _ _ _ _ _ ∅)
    · rw[cc]; exact one _ _ _ (mn _ _ _ _ _ _ _ _ ∅) (mn _ _ _ _ _ _ _ _ ∅) (mn _ _ _ _ _ _ _ _ ∅)
end
end My
namespace My
open PySem L2 PyProof.Rows
section
variable{κ:KX}
theorem Zn0{κ:KX}{x:κ.F}(h:NumV κ (-1) x):x+1=0:=by
  cases κ with
  | q =>
    have e:x=(-1:Rat):=Rat.ext h.1 h.2
    subst e
    show (-1:Rat)+1=0
    grind
  | r p hp =>
    have h2:=hp.two
    refine Fin.ext ?_
    show (Fin.val x+Fin.val (K1 (.r p hp)))%p=Fin.val (K0 (.r p hp))
    rw[Zgt,ZeK]
    have e:(Fin.val x:Int)=(-1)%p:=h.2
    have e2:((-1:Int))%p=(p:Int)-1:=by
      have:(-1:Int)=((p:Int)-1)+p*(-1):=by omega
      rw[this,Int.add_mul_emod_self_left]
      exact Ub ⋯ ⋯
    have e3:Fin.val x+1=p:=by omega
    rw[e3,Nat.mod_self]
theorem Zla{κ:KX}:NumV κ (-1) ((0:κ.F)-1):=by
  obtain ⟨x,hx⟩:=ZkO (κ:=κ) (t:=-1) ∅
  have:=Zn0 hx
  have e:x=0-1:=by grind
  rw[<-e]; exact hx
theorem Zqm{t b:Int}{N:Nat}(b1:1<=b)(b6:b<=6)(h:t.natAbs<=N):QN .q ((60:Nat):Int) (60*N) (Rat.divInt t b):=by
  have key:∀e:Int,b*e=60->0<=e->e<=60->QN .q ((60:Nat):Int) (60*N) (Rat.divInt t b):=λe he e0 e6=>by
    refine ⟨t*e,?_,?_⟩
    · rw[W5 ⋯ ∅]
      show t*60=t*e*b
      rw[<-he,Ql b e,Qn]
    · rw[Qq,Wi]
      exact Qz ⋯ h
  obtain rfl | rfl | rfl | rfl | rfl | rfl:b=1\/b=2\/b=3\/b=4\/b=5\/b=6:=by omega
  · exact key 60 rfl ∅ ∅
  · exact key 30 rfl ∅ ∅
  · exact key 20 rfl ∅ ∅
  · exact key 15 rfl ∅ ∅
  · exact key 12 rfl ∅ ∅
  · exact key 10 rfl ∅ ∅
end
def Zlq:KX->Nat
  | .q=>3
  | .r _ _=>7
def szN(κ:KX)(c:Int):Nat:=(c*48271%65537%(Zlq κ:Int)).toNat+1
def mst(κ:KX)(s:Nat):Nat:=match κ with
  | .q=>if s=1 then 60 else if s=2 then 12 else 6
  | .r _ _=>if s<4 then 12 else 4
def exN(κ:KX)(c:Int):Int:=c*40692%65543%(2*(mst κ (szN κ c):Int)+1)-(mst κ (szN κ c):Int)
def wdN(κ:KX)(c:Int):Bool:=decide ((szN κ c:Int)<3)&&decide (((exN κ c).natAbs:Int)<3)
def toN(b:Bool):Nat:=if b then 10^59 else 6
theorem ZiW(κ:KX):0<Zlq κ:=by
  cases κ with
  | q=>exact (by decide:0<3)
  | r p hp=>exact (by decide:0<7)
theorem Zd1(κ:KX)(c:Int):1<=szN κ c/\szN κ c<=Zlq κ/\Zlq κ<=7:=by
  have h:=ZiW κ
  have a:=Wd (c*48271%65537) (show (Zlq κ:Int)≠0 by omega)
  have b:=Wt (c*48271%65537) (show 0<(Zlq κ:Int) by omega)
  refine ⟨?_,?_,?_⟩
  · unfold szN; omega
  · unfold szN; omega
  · cases κ with
    | q=>exact (by decide:3<=7)
    | r p hp=>exact Q4 7
theorem Zlb(κ:KX)(c:Int):(exN κ c).natAbs<=mst κ (szN κ c):=by
  unfold exN
  generalize mst κ (szN κ c)=m
  have a:=Wd (c*40692%65543) (show 2*(m:Int)+1≠0 by omega)
  have b:=Wt (c*40692%65543) (show 0<2*(m:Int)+1 by omega)
  omega
inductive ZcF (vs:List V) (H:Hp) (Q:VK) (zE:XK):Prop
  | mk (κ:KX) (c:Int) (_:vs=[.int κ.P,.int c]) (_:Bits 1048576 c) (_:∀H',Same H H'->Q (.int (szN κ c:Int)) H'):ZcF vs H Q zE
inductive ZcG (vs:List V) (H:Hp) (Q:VK) (zE:XK):Prop
  | mk (κ:KX) (c:Int) (_:vs=[.int κ.P,.int c]) (_:Bits 1048576 c) (_:∀H',Same H H'->Q (.int (exN κ c)) H'):ZcG vs H Q zE
inductive Zc8 (vs:List V) (H:Hp) (Q:VK) (zE:XK):Prop
  | mk (κ:KX) (c:Int) (b:Bool) (_:vs=[.int κ.P,.int c,.bl b]) (_:Bits 2097152 c) (_:∀H' v (x:κ.F),Same H H'->NR κ H' v x->QN κ ((60:Nat):Int) (60*toN b) x->Q v H'):Zc8 vs H Q zE
inductive ZdI (vs:List V) (H:Hp) (Q:VK) (zE:XK):Prop
  | mk (κ:KX) (n:Nat) (_:vs=[.int κ.P,.int (n:Int)]) (_:1<=n) (_:n<=7) (_:∀H' t rs,Same H H'->H' t=some (.lst (rs.map V.ref))->RowsX κ H' rs (ZaA κ n)->Q (.ref t) H'):ZdI vs H Q zE
section
variable{κ:KX}
theorem ZoO{h:Nat->κ.F}{D:Int}(hD:0<D){M:Nat}:∀k,(∀i,i<k->QN κ D M (h i))->QN κ D (k*M) (Sg h k)
  | 0,_=>QN.zero
  | k+1,e=>by
    rw[Nat.succ_mul]
    exact QN.add hD (ZoO hD k λi hi=>e i ⋯) (e k ⋯)
theorem Zlc{D:Int}{M:Nat}{A:List (List κ.F)}(h:AllR (QN κ D M) A)(i j:Nat):QN κ D M (ent A i j):=by
  unfold ent
  by_cases q:j<(A.getD i []).length
  · refine h.getD i _ ?_
    rw[Q3 (l:=A.getD i []),Q2 q]
    exact Qe _
  · have:(A.getD i []).getD j 0=(0:κ.F):=by rw[Q3,List.getElem?_eq_none ⋯]; rfl
    rw[this]
    exact QN.zero
theorem ZiX{α β γ:Type}{h:α->β->γ}{z:γ}:∀ {l:List α} {m:List β},z∈List.zipWith h l m->∃x y,x∈l/\y∈m/\z=h x y
  | [],_,q=>by simp at q
  | _::_,[],q=>by simp at q
  | a::l,b::m,q=>by
    rcases Q8.mp q with e | e
    · exact ⟨a,b,Qv,Qv,e⟩
    · obtain ⟨x,y,hx,hy,e⟩:=ZiX e
      exact ⟨x,y,W3 _ hx,W3 _ hy,e⟩
theorem Zc9{D M:Nat}{x:κ.F}(h:QN κ (D:Int) M x)(d0:0<D)(d1:D<2^3000)(m1:M<2^3000):B1 κ x:=QN.b1 ⋯ (by rw[Qt]; exact d1) m1 h
structure LimP (D E M N:Nat):Prop where
  d:0<D
  e:0<E
  de:D*E<2^3000
  m:M<2^3000
  n:N<2^3000
  mn:7*(M*N)<2^3000
theorem LimP.dl{D E M N:Nat}(h:LimP D E M N):D<2^3000:=Qc (Nat.le_mul_of_pos_right D h.e) h.de
theorem LimP.el{D E M N:Nat}(h:LimP D E M N):E<2^3000:=Qc (Ux E h.d) h.de
def rM:Nat->Nat
  | 0=>12*10^60
  | q+1=>2*(rM q*rM q)
def rD(q:Nat):Nat:=60^(2^q)
def RowZ(κ:KX)(q:Nat)(f:List κ.F):Prop:=∃D M:Nat,0<D/\D<=rD q/\M<=rM q/\∀x∈f,QN κ (D:Int) M x
theorem Zpu(q:Nat):rD q<=rD (q+1):=Qa ∅ (Qa ∅ (Wo q))
theorem Zld:∀q,0<rM q
  | 0=>by show 0<12*10^60; decide
  | q+1=>by
    show 0<2*(rM q*rM q)
    have:=Wa (Zld q) (Zld q)
    omega
theorem Zpv(q:Nat):rM q<=rM (q+1):=by
  show rM q<=2*(rM q*rM q)
  have:=Nat.le_mul_of_pos_right (rM q) (Zld q)
  omega
theorem RowZ.up{q:Nat}{f:List κ.F}(h:RowZ κ q f):RowZ κ (q+1) f:=by
  obtain ⟨D,M,a,b,c,d⟩:=h
  exact ⟨D,M,a,Q0 b (Zpu q),Q0 c (Zpv q),d⟩
theorem rD2{q:Nat}(h:q<=2):rD q<2^3000:=by
  obtain rfl | rfl | rfl:q=0\/q=1\/q=2:=by omega
  · exact Q5 (show rD 0<2^200 by decide) (Qa ∅ ∅)
  · exact Q5 (show rD 1<2^200 by decide) (Qa ∅ ∅)
  · exact Q5 (show rD 2<2^200 by decide) (Qa ∅ ∅)
theorem rM2{q:Nat}(h:q<=2):rM q<2^3000:=by
  obtain rfl | rfl | rfl:q=0\/q=1\/q=2:=by omega
  · exact Q5 (show rM 0<2^2000 by decide) (Qa ∅ ∅)
  · exact Q5 (show rM 1<2^2000 by decide) (Qa ∅ ∅)
  · exact Q5 (show rM 2<2^2000 by decide) (Qa ∅ ∅)
theorem RowZ.b1{q:Nat}{f:List κ.F}(h:RowZ κ q f)(hq:κ = .q->q<=2):∀x∈f,B1 κ x:=λx hx=>by
  cases κ with
  | r p hp=>exact trivial
  | q =>
    obtain ⟨D,M,a,b,c,d⟩:=h
    exact Zc9 (d x hx) a (Qc b (rD2 (hq rfl))) (Qc c (rM2 (hq rfl)))
theorem RowZ.step{q j:Nat}{f g:List κ.F}(hf:RowZ κ q f)(hg:RowZ κ q g)(hq:κ = .q->q<=1){a b:κ.F}(ha:a∈g)(hb:b∈f) :
    RowZ κ (q+1) (List.zipWith (λx y=>a*(0-1)*x+b*y) f g)/\B1 κ (a*(0-1))/\(∀x∈f,B1 κ (a*(0-1)*x))/\∀y∈g,B1 κ (b*y):=by
  obtain ⟨D,M,d0,d1,m1,qf⟩:=hf
  obtain ⟨E,N,e0,e1,n1,qg⟩:=hg
  have am:QN κ (E:Int) N (a*(0-1)):=by
    have e:a*(0-1)=0-a:=by grind
    rw[e]; exact QN.neg (qg a ha)
  have p1:∀x∈f,QN κ ((D*E:Nat):Int) (M*N) (a*(0-1)*x):=λx hx=>by
    have:=QN.mulN am (qf x hx)
    rwa [Wi E D,Wi N M] at this
  have p2:∀y∈g,QN κ ((D*E:Nat):Int) (M*N) (b*y):=λy hy=>QN.mulN (qf b hb) (qg y hy)
  have de:0<D*E:=Wa d0 e0
  have l1:D*E<=rD (q+1):=by
    have:=Qz d1 e1
    refine Q0 this (Wx ?_)
    unfold rD
    rw[<-Uk,Wc,Nat.mul_two]
  have l2:M*N+M*N<=rM (q+1):=by
    have:=Qz m1 n1
    show _<=2*(rM q*rM q)
    omega
  refine ⟨⟨D*E,M*N+M*N,de,l1,l2,λz hz=>?_⟩,?_,λx hx=>?_,λy hy=>?_⟩
  · obtain ⟨x,y,hx,hy,rfl⟩:=ZiX hz
    exact QN.add ⋯ (p1 x hx) (p2 y hy)
  · cases κ with
    | r p hp=>exact trivial
    | q=>exact Zc9 am e0 (Qc e1 (rD2 (by have:=hq rfl; omega))) (Qc n1 (rM2 (by have:=hq rfl; omega)))
  · cases κ with
    | r p hp=>exact trivial
    | q=>exact Zc9 (p1 x hx) de (Qc l1 (rD2 (by have:=hq rfl; omega))) (Qc (show M*N<=rM (q+1) by omega) (rM2 (by have:=hq rfl; omega)))
  · cases κ with
    | r p hp=>exact trivial
    | q=>exact Zc9 (p2 y hy) de (Qc l1 (rD2 (by have:=hq rfl; omega))) (Qc (show M*N<=rM (q+1) by omega) (rM2 (by have:=hq rfl; omega)))
end
inductive Zch (vs:List V) (H:Hp) (Q:VK) (zE:XK):Prop
  | mk (κ:KX) (a b:Addr) (rs ss:List Addr) (R S:List (List κ.F)) (n:Nat) (D E M N:Nat) (_:vs=[.int κ.P,.ref a,.ref b]) (_:H a=some (.lst (rs.map V.ref))) (_:RowsX κ H rs R) (_:H b=some (.lst (ss.map V.ref))) (_:RowsX κ H ss S) (_:R.length=n) (_:Wid n R) (_:S.length=n) (_:Wid n S) (_:1<=n) (_:n<=7) (_:AllR (QN κ (D:Int) M) R) (_:AllR (QN κ (E:Int) N) S) (_:LimP D E M N) (_:∀(H':Hp) (t:Addr) (ds:List Addr) (T:List (List κ.F)),Same H H'->H' t=some (.lst (ds.map V.ref))->RowsX κ H' ds T->T.length=n->Wid n T->(∀i j,i<n->j<n->ent T i j=Sg (λl=>ent R i l*ent S l j) n)->AllR (QN κ ((D*E:Nat):Int) (n*(M*N))) T->Q (.ref t) H'):Zch vs H Q zE
inductive ZdJ (vs:List V) (H:Hp) (Q:VK) (zE:XK):Prop
  | mk (κ:KX) (a:Addr) (rs:List Addr) (A:List (List κ.F)) (n M:Nat) (_:vs=[.int κ.P,.ref a]) (_:H a=some (.lst (rs.map V.ref))) (_:RowsX κ H rs A) (_:A.length=n) (_:Wid n A) (_:1<=n) (_:n<=7) (_:(κ = .q->n<=3)) (_:AllR (QN κ ((60:Nat):Int) M) A) (_:M<=12*10^60) (_:∀(H':Hp) (R:List (List κ.F)) (ts:List (Tn κ)) (ls:List Nat),Same H H'->A=ZaE ts R->(∀t∈ts,t.ok n)->R.length=n->Wid n R->Ech R n n ls 1->Q (.int (ls.length:Int)) H'):ZdJ vs H Q zE
end My
namespace My
open PySem L2 PyProof.Rows
inductive ZfC (vs:List V) (H:Hp) (Q:VK) (zE:XK):Prop
  | mk (c:Addr) (cs:List Int) (k:Nat) (_:vs=[.ref c,.int (k:Int)]) (_:Ce H c cs) (_:k<256) (_:∀x,Bits 1048593 x->Q (.int x) H):ZfC vs H Q zE
section
variable{P:Program}{w:World}{K:PySem.W.Frag}{mg:Str->Option Value}{base:Heap}
theorem Zle:FnScope ["_law_cells", "_law_k"] ["_law_cells", "_law_k"] (Zag Zgc):=‹2›
theorem Zlf(h:Here K mg "_law_cell" Zgc) (T:Nm mg):Has P w K mg base "_law_cell" 1 ["_law_cells", "_law_k"] ZfC:=by
  refine h.has (λf fd F=>F.binds λ_ _ _ _ _ _ us hl=>by obtain ⟨_,_,rfl⟩:=ZdM hl; exact rfl) λf fd F=>F.ok Zle (λvs H Q E h=>?_) (λcdv A outer s H vs Q E hr h=>?_)
  · obtain ⟨_,_,_,rfl,_⟩:=h
    rfl
  obtain ⟨c,cs,kk,rfl,ce,hk,k⟩:=h
  refine ⟨_,(Zab (ZaC (Zaq Zca (pv 1) (Zam Zai (by rfl) T.len boot_len (Zaa (pv 0) Zac)) (Zap _)) (Zae (Zaj (Zar Zav (pv 0) (pv 1) (λ_ _=>rfl)))) Zat)
    (Zae (Zaj (Zal Za6 (Zal ZaB (Zar Zav (pv 0) (Zal ZaS (pv 1) (Zam Zai (by rfl) T.len boot_len (Zaa (pv 0) Zac))) (λ_ _=>rfl)) (Zal Za6 (pv 1) Zad)) (Zal ZaB (pv 1) (pv 1)))))),?_⟩
  have h1:=ce.h1
  have h2:=ce.h2
  refine ⟨_,rfl,_,rfl,c,_,rfl,.inl (SqL.of ce.l),_,_,rfl,rfl,_,rfl,?_⟩
  rw[Q1]
  refine Za3 (λz=>?_) (λz=>?_)
  · have lk:kk<cs.length:=by omega
    refine ⟨_,rfl,_,rfl,c,_,_,_,rfl,rfl,SqL.of ce.l,Zhd lk,?_⟩
    exact k _ (Bits.mono (ce.b _ (Qe lk)) ∅)
  · have len0:(cs.length:Int)≠0:=by omega
    have fm:((kk:Nat):Int).fmod (cs.length:Int)=((kk%cs.length:Nat):Int):=by rw[Qy _ ⋯]; rfl
    have lj:kk%cs.length<cs.length:=Nat.mod_lt _ ⋯
    refine ⟨_,rfl,_,rfl,_,rfl,c,_,rfl,.inl (SqL.of ce.l),_,_,rfl,rfl,(by rw[Q1]; exact len0),c,_,_,_,rfl,rfl,SqL.of ce.l,(by rw[Q1,fm]; exact Zhd lj),_,rfl,_,_,rfl,rfl,_,_,rfl,rfl,.of_right (intBits_le_64 ⋯ ⋯),_,rfl,_,rfl,_,_,rfl,rfl,.of_right (intBits_le_64 ⋯ ⋯),_,_,rfl,rfl,?_⟩
    exact k _ (Bits.cell (ce.b _ (Qe lj)) ⋯ ⋯)
end
section
variable{P:Program}{w:World}{K:PySem.W.Frag}{mg:Str->Option Value}{base:Heap}
theorem sc_l_lowest:FnScope ["_law_top", "_law_bottom", "_law_by"] ["_law_top", "_law_bottom"] (Zag Zd8):=‹2›
theorem Zlg(h:Here K mg "_law_lowest" Zd8) (h_l_divisor:Has P w K mg base "_law_divisor" 1 ["_law_one", "_law_other"] ZaU):Has P w K mg base "_law_lowest" 2 ["_law_top", "_law_bottom"] Zfo:=by
  refine h.has (λf fd F=>F.binds λ_ _ _ _ _ _ us hl=>by obtain ⟨_,_,rfl⟩:=ZdM hl; exact rfl) λf fd F=>F.ok sc_l_lowest (λvs H Q E h=>?_) (λcdv A outer s H vs Q E hr h=>?_)
  · obtain ⟨_,_,rfl,_⟩:=h
    rfl
  obtain ⟨t,b,rfl,hb,fb,k⟩:=h
  have nd:=sc_l_lowest.nd
  refine ⟨_,(Zab (Zak (i:=2) nd rfl (Or.inl rfl) (Zao h_l_divisor hr (by rfl) (Zaa (pv 0) (Zaa (pv 1) Zac))))
    (Zae (Zaj (ZaY (Zaa (Zal ZiF (pv 0) (pv 2)) (Zaa (Zal ZiF (pv 1) (pv 2)) Zac)))))),?_⟩
  refine ⟨_,rfl,_,rfl,t,b,rfl,?_⟩
  have hg:=M3.gcd_ne (a:=t) (b:=b) ⋯
  have gl:Int.gcd t b<=b.natAbs:=Wy ⋯ (Wz.mpr (W1 t b))
  have hg1:(Int.gcd t b:Int)≠0/\Bits 8000 (Int.gcd t b:Int):=⟨⋯,fb.le (by rw[Qt]; exact gl)⟩
  obtain ⟨e1,e2⟩:=Zqb (t:=t) hb
  refine ⟨_,rfl,_,rfl,_,_,rfl,rfl,hg1,_,rfl,_,rfl,_,_,rfl,rfl,hg1,(by show 2<=sizeLine; decide),λr hr'=>?_⟩
  have:=k r hr'
  rw[<-e1,<-e2] at this
  exact this
end
section
variable{P:Program}{w:World}{K:PySem.W.Frag}{mg:Str->Option Value}{base:Heap}
theorem Zlh:FnScope ["_law_prime_here", "_law_one", "_law_other"] ["_law_prime_here", "_law_one", "_law_other"] (Zag Zgd):=‹2›
theorem ZjC(h:Here K mg "_law_plus" Zgd) (h_l_lowest:Has P w K mg base "_law_lowest" 2 ["_law_top", "_law_bottom"] Zfo):Has P w K mg base "_law_plus" 3 ["_law_prime_here", "_law_one", "_law_other"] (Zb8 λ_ x y=>x+y):=by
  refine h.has (λf fd F=>F.binds λ_ _ _ _ _ _ us hl=>by obtain ⟨_,_,_,rfl⟩:=Zdq hl; exact rfl) λf fd F=>F.ok Zlh (λvs H Q E h=>?_) (λcdv A outer s H vs Q E hr h=>?_)
  · obtain ⟨_,_,_,_,_,rfl,_⟩:=h
    rfl
  obtain ⟨κ,u,v,x,y,rfl,nx,ny,bx,by',k⟩:=h
  refine ⟨_,(Zab (ZaC (Zaq Zf1 (pv 0) Zad (Zap _)) (Zae (Zaj (Zal ZaS (Zal Za6 (pv 1) (pv 2)) (pv 0)))) Zat)
    (Zae (Zaj (Zao h_l_lowest hr (by rfl) (Zaa (Zal Za6 (Zal ZaB (Zar Zan (pv 1) Zad (λ_ _=>rfl)) (Zar Zan (pv 2) Zad (λ_ _=>rfl))) (Zal ZaB (Zar Zan (pv 2) Zad (λ_ _=>rfl)) (Zar Zan (pv 1) Zad (λ_ _=>rfl)))) (Zaa (Zal ZaB (Zar Zan (pv 1) Zad (λ_ _=>rfl)) (Zar Zan (pv 2) Zad (λ_ _=>rfl))) Zac)))))),?_⟩
  refine ⟨_,rfl,_,_,rfl,rfl,_,rfl,?_⟩
  cases κ with
  | q =>
    obtain ⟨a,rfl,ha⟩:=nx
    obtain ⟨b,rfl,hb⟩:=ny
    refine Zb6 (show ¬(0:Int)<0 by decide) ?_
    have px:=(Za8 x).pos
    have py:=(Za8 y).pos
    refine ⟨_,rfl,a,_,0,_,rfl,rfl,SqT.of ha,rfl,_,rfl,b,_,1,_,rfl,rfl,SqT.of hb,rfl,_,_,rfl,rfl,bx.1.mulG by'.2,_,rfl,b,_,0,_,rfl,rfl,SqT.of hb,rfl,_,rfl,a,_,1,_,rfl,rfl,SqT.of ha,rfl,_,_,rfl,rfl,by'.1.mulG bx.2,_,_,rfl,rfl,_,rfl,a,_,1,_,rfl,rfl,SqT.of ha,rfl,_,rfl,b,_,1,_,rfl,rfl,SqT.of hb,rfl,_,_,rfl,rfl,(bx.2.up ∅).mulG by'.2,_,_,rfl,Qu px py,(bx.2.times by'.2),λr hr'=>?_⟩
    have e:x+y=Rat.divInt (x.num*y.den+y.num*x.den) ((x.den:Int)*y.den):=by
      rw[<-Uz _ _ ⋯ ⋯,Qs,Qs]
    refine k _ _ (Zah hr' _) ⟨r,rfl,?_⟩
    rw[Zaf]
    show _=some (HO.tup [.int (x+y).num,.int ((x+y).den:Int)])
    rw[e]
  | r p hp =>
    have nx:u = .int x.val:=nx
    have ny:v = .int y.val:=ny
    subst nx ny
    refine Zbv (show (0:Int)<(KX.r p hp).P from ZhX) ⟨_,rfl,_,rfl,_,_,rfl,rfl,_,rfl,_,_,rfl,rfl,(show (p:Int)≠0 by have:=hp.two; omega),k H _ (Same.refl H) ?_⟩
    show V.int (((x.val:Int)+y.val).fmod p)=V.int ((Fin.val (x+y):Nat):Int)
    have e:Fin.val (x+y)=(x.val+y.val)%p:=Fin.val_add x y
    rw[e,Wb,U0,Qy _ ⋯]
end
section
variable{P:Program}{w:World}{K:PySem.W.Frag}{mg:Str->Option Value}{base:Heap}
theorem ZjD:FnScope ["_law_prime_here", "_law_one", "_law_other"] ["_law_prime_here", "_law_one", "_law_other"] (Zag Zfe):=‹2›
theorem Zif(h:Here K mg "_law_times" Zfe) (h_l_lowest:Has P w K mg base "_law_lowest" 2 ["_law_top", "_law_bottom"] Zfo):Has P w K mg base "_law_times" 3 ["_law_prime_here", "_law_one", "_law_other"] (Zb8 λ_ x y=>x*y):=by
  refine h.has (λf fd F=>F.binds λ_ _ _ _ _ _ us hl=>by obtain ⟨_,_,_,rfl⟩:=Zdq hl; exact rfl) λf fd F=>F.ok ZjD (λvs H Q E h=>?_) (λcdv A outer s H vs Q E hr h=>?_)
  · obtain ⟨_,_,_,_,_,rfl,_⟩:=h
    rfl
  obtain ⟨κ,u,v,x,y,rfl,nx,ny,bx,by',k⟩:=h
  refine ⟨_,(Zab (ZaC (Zaq Zf1 (pv 0) Zad (Zap _)) (Zae (Zaj (Zal ZaS (Zal ZaB (pv 1) (pv 2)) (pv 0)))) Zat)
    (Zae (Zaj (Zao h_l_lowest hr (by rfl) (Zaa (Zal ZaB (Zar Zan (pv 1) Zad (λ_ _=>rfl)) (Zar Zan (pv 2) Zad (λ_ _=>rfl))) (Zaa (Zal ZaB (Zar Zan (pv 1) Zad (λ_ _=>rfl)) (Zar Zan (pv 2) Zad (λ_ _=>rfl))) Zac)))))),?_⟩
  refine ⟨_,rfl,_,_,rfl,rfl,_,rfl,?_⟩
  cases κ with
  | q =>
    obtain ⟨a,rfl,ha⟩:=nx
    obtain ⟨b,rfl,hb⟩:=ny
    refine Zb6 (show ¬(0:Int)<0 by decide) ?_
    have px:=(Za8 x).pos
    have py:=(Za8 y).pos
    refine ⟨_,rfl,a,_,0,_,rfl,rfl,SqT.of ha,rfl,_,rfl,b,_,0,_,rfl,rfl,SqT.of hb,rfl,_,_,rfl,rfl,bx.1.mulT by'.1,_,rfl,a,_,1,_,rfl,rfl,SqT.of ha,rfl,_,rfl,b,_,1,_,rfl,rfl,SqT.of hb,rfl,_,_,rfl,rfl,(bx.2.up ∅).mulG by'.2,_,_,rfl,Qu px py,(bx.2.times by'.2),λr hr'=>?_⟩
    have e:x*y=Rat.divInt (x.num*y.num) ((x.den:Int)*y.den):=by
      rw[<-Wm,Qs,Qs]
    refine k _ _ (Zah hr' _) ⟨r,rfl,?_⟩
    rw[Zaf]
    show _=some (HO.tup [.int (x*y).num,.int ((x*y).den:Int)])
    rw[e]
  | r p hp =>
    have nx:u = .int x.val:=nx
    have ny:v = .int y.val:=ny
    subst nx ny
    refine Zbv (show (0:Int)<(KX.r p hp).P from ZhX) ⟨_,rfl,_,rfl,_,_,rfl,rfl,ZbF (Za0 hp x) (Za0 hp y),_,rfl,_,_,rfl,rfl,(show (p:Int)≠0 by have:=hp.two; omega),k H _ (Same.refl H) ?_⟩
    show V.int (((x.val:Int)*y.val).fmod p)=V.int ((Fin.val (x*y):Nat):Int)
    have e:Fin.val (x*y)=(x.val*y.val)%p:=Fin.val_mul x y
    rw[e,Wb,Wl,Qy _ ⋯]
end
section
variable{P:Program}{w:World}{K:PySem.W.Frag}{mg:Str->Option Value}{base:Heap}
theorem Zli:FnScope ["_law_prime_here", "_law_number_here"] ["_law_prime_here", "_law_number_here"] (Zag Zge):=‹2›
theorem Zlj(h:Here K mg "_law_made" Zge):Has P w K mg base "_law_made" 1 ["_law_prime_here", "_law_number_here"] ZbQ:=by
  refine h.has (λf fd F=>F.binds λ_ _ _ _ _ _ us hl=>by obtain ⟨_,_,rfl⟩:=ZdM hl; exact rfl) λf fd F=>F.ok Zli (λvs H Q E h=>?_) (λcdv A outer s H vs Q E hr h=>?_)
  · obtain ⟨_,_,_,rfl,_⟩:=h
    rfl
  obtain ⟨κ,t,x,rfl,nx,k⟩:=h
  refine ⟨_,(Zab (ZaC (Zaq Zf1 (pv 0) Zad (Zap _)) (Zae (Zaj (Zal ZaS (pv 1) (pv 0)))) Zat)
    (Zae (Zaj (ZaY (Zaa (pv 1) (Zaa Zad Zac)))))),?_⟩
  refine ⟨_,rfl,_,_,rfl,rfl,_,rfl,?_⟩
  cases κ with
  | r p hp =>
    have h2:=hp.two
    refine Zbv (show (0:Int)<(KX.r p hp).P from ZhX) ⟨_,rfl,_,rfl,_,_,rfl,rfl,(show (p:Int)≠0 by omega),k H _ (Same.refl H) ?_⟩
    show V.int (t.fmod p)=V.int x.val
    have e:(Fin.val x:Int)=t%p:=nx.2
    rw[Qy _ ⋯,e]
  | q =>
    refine Zb6 (show ¬(0:Int)<0 by decide) ⟨_,rfl,(by show 2<=sizeLine; decide),λr nr=>?_⟩
    refine k _ _ (Zah nr _) ⟨r,rfl,?_⟩
    have e1:Rat.num x=t:=nx.1
    have e2:Rat.den x=1:=nx.2
    rw[Zaf,e1,e2]; rfl
end
section
variable{P:Program}{w:World}{K:PySem.W.Frag}{mg:Str->Option Value}{base:Heap}
theorem Zig:FnScope ["_law_prime_here", "_law_thing"] ["_law_prime_here", "_law_thing"] (Zag Zd9):=‹2›
theorem Zhr(h:Here K mg "_law_number" Zd9) (T:Nm mg) (h_l_whole:Has P w K mg base "_law_whole" 1 ["_law_found"] Zcy) (h_l_divisor:Has P w K mg base "_law_divisor" 1 ["_law_one", "_law_other"] ZaU):Has P w K mg base "_law_number" 2 ["_law_prime_here", "_law_thing"] Zc5:=by
  refine h.has (λf fd F=>F.binds λ_ _ _ _ _ _ us hl=>by obtain ⟨_,_,rfl⟩:=ZdM hl; exact rfl) λf fd F=>F.ok Zig (λvs H Q E h=>?_) (λcdv A outer s H vs Q E hr h=>?_)
  · obtain ⟨_,_,_,rfl,_⟩:=h
    rfl
  obtain ⟨κ,u,x,rfl,nu,k⟩:=h
  refine ⟨_,(Zab (ZaC (Zaq Zf1 (pv 0) Zad (Zap _)) (Zae (Zaj (ZbA (Zao h_l_whole hr (by rfl) (Zaa (pv 1) Zac)) (ZbA (ZaM Zlw Zad (pv 1) (Zap _)) (Zb2 (ZaM Zca (pv 1) (pv 0) (Zap _))))))) Zat)
    (Zab (ZaC (Zhx (ZbR (Zbo (Zam Zbg (by rfl) T.isinstance boot_isinstance (Zaa (pv 1) (Zaa (Zg4 (by rfl) T.tuple boot_tuple) Zac))))) (ZeR (Zaq Zdv (Zam Zai (by rfl) T.len boot_len (Zaa (pv 1) Zac)) Zad (Zap _)))).pt (Zae (Zaj ZcL)) Zat)
    (Zab (ZaC (Zhx (ZbR (Zbo (Zao h_l_whole hr (by rfl) (Zaa (Zar Zan (pv 1) Zad (λ_ _=>rfl)) Zac)))) (ZeR (ZbR (Zbo (Zao h_l_whole hr (by rfl) (Zaa (Zar Zan (pv 1) Zad (λ_ _=>rfl)) Zac)))))).pt (Zae (Zaj ZcL)) Zat)
    (Zae (Zaj (ZbA (ZaM Zf1 (Zar Zan (pv 1) Zad (λ_ _=>rfl)) Zad (Zap _)) (Zb2 (ZaM Zbh (Zao h_l_divisor hr (by rfl) (Zaa (Zar Zan (pv 1) Zad (λ_ _=>rfl)) (Zaa (Zar Zan (pv 1) Zad (λ_ _=>rfl)) Zac))) Zad (Zap _))))))))),?_⟩
  refine ⟨_,rfl,_,_,rfl,rfl,_,rfl,?_⟩
  cases κ with
  | r p hp =>
    have nu:u = .int x.val:=nu
    subst nu
    have xl:=x.isLt
    exact Zbv (show (0:Int)<(KX.r p hp).P from ZhX) ⟨_,rfl,_,rfl,_,rfl,ZfG ⟨_,rfl,_,_,rfl,rfl,_,rfl,Zbv (show (0:Int)<=x.val by omega) ⟨_,rfl,_,rfl,_,_,rfl,rfl,ZkS (show (x.val:Int)<(p:Int) by omega) k⟩⟩⟩
  | q =>
    obtain ⟨a,rfl,ha⟩:=nu
    have fx:=Za8 x
    refine Zb6 (show ¬(0:Int)<0 by decide) ?_
    refine ⟨_,rfl,_,_,_,_,rfl,.of (.tup ha),.ty (ZdO K _),_,rfl,ZeF ?_⟩
    refine ⟨_,rfl,a,_,rfl,.inr (SqT.of ha),rfl,_,rfl,ZcO (λz=>absurd rfl z) (λ_=>?_)⟩
    refine ⟨_,rfl,a,_,0,_,rfl,rfl,SqT.of ha,rfl,_,rfl,_,rfl,ZeF ?_⟩
    refine ⟨_,rfl,a,_,1,_,rfl,rfl,SqT.of ha,rfl,_,rfl,_,rfl,ZeF ?_⟩
    refine ⟨_,rfl,a,_,1,_,rfl,rfl,SqT.of ha,rfl,_,_,rfl,rfl,_,rfl,Zbv (show (0:Int)<x.den from fx.pos) ?_⟩
    refine ⟨_,rfl,a,_,0,_,rfl,rfl,SqT.of ha,rfl,_,rfl,a,_,1,_,rfl,rfl,SqT.of ha,rfl,_,_,rfl,rfl,ZkS (show V.int ((Int.gcd x.num x.den:Nat):Int)=V.int 1 by rw[fx.cop]; rfl) k⟩
end
inductive ZdK (vs:List V) (H:Hp) (Q:VK) (zE:XK):Prop
  | mk (c:Int) (_:vs=[.int c]) (_:∀(H':Hp) (p:Int),Same H H'->PK p->Q (.int p) H'):ZdK vs H Q zE
section
variable{P:Program}{w:World}{K:PySem.W.Frag}{mg:Str->Option Value}{base:Heap}
theorem sc_l_prime:FnScope ["_law_cell_here", "_law_number_here"] ["_law_cell_here"] (Zag Zfd):=‹2›
theorem Zih(h:Here K mg "_law_prime" Zfd) (h_l_is_prime:Has P w K mg base "_law_is_prime" 1 ["_law_number_here"] ZdS):Has P w K mg base "_law_prime" 2 ["_law_cell_here"] ZdK:=by
  refine h.has (λf fd F=>F.binds λ_ _ _ _ _ _ us hl=>by obtain ⟨_,rfl⟩:=Zlp hl; exact rfl) λf fd F=>F.ok sc_l_prime (λvs H Q E h=>?_) (λcdv A outer s H vs Q E hr h=>?_)
  · obtain ⟨_,rfl,_⟩:=h
    rfl
  obtain ⟨c,rfl,k⟩:=h
  have nd:=sc_l_prime.nd
  refine ⟨_,(Zab (ZaC (Zaq Zbh (Zal Zbp (pv 0) Zad) Zad (Zap _)) (Zae (Zaj Zad)) Zat)
    (Zab (Zak (i:=1) nd rfl (Or.inl rfl) (Zal Za6 Zad (Zal ZaS (Zal Zhy (pv 0) Zad) (Zar Zav (Zdp (Zaa Zad (Zaa Zad (Zaa Zad Zac)))) (Zal Zbp (pv 0) Zad) (λ_ _=>rfl)))))
    (Zab (Zb3 PassesOwn.never (ZbR (Zbo (Zao h_l_is_prime hr (by rfl) (Zaa (pv 1) Zac)))) (Zae (Zak (i:=1) nd rfl (Or.inl rfl) (Zal Za6 (pv 1) Zad))))
    (Zae (Zaj (pv 1)))))),?_⟩
  refine ⟨_,rfl,_,_,rfl,rfl,(by show (0:Int)<_; decide),rfl,_,rfl,?_⟩
  refine ZbC (λ_=>k H 0 (Same.refl H) (.inl rfl)) (λ_=>?_)
  obtain ⟨m,am,m1,m2⟩:=Zph c
  refine ⟨_,rfl,_,_,rfl,rfl,⟨∅,∅⟩,(by show 3<=sizeLine; decide),λq hq=>?_⟩
  refine ⟨_,rfl,_,_,rfl,rfl,(by show (0:Int)<_; decide),_,_,_,_,rfl,rfl,SqL.of Zaf,am,_,_,rfl,rfl,(show m≠0 by omega),_,_,rfl,rfl,?_⟩
  have S:=Zah hq (.lst [.int 11,.int 11,.int 999982])
  generalize upd H q _=H1 at *
  have fm:(c/3).fmod m=c/3%m:=Qy _ ⋯
  have f1:=Wd (c/3) (show m≠0 by omega)
  have f2:=Wt (c/3) (show 0<m by omega)
  refine ⟨λmm σ H'=>∃t:Int,mm=(999983-t).toNat/\σ=[some (.int c),some (.int t)]/\H'=H1/\2<=t/\t<=999983,⟨_,2+(c/3).fmod m,rfl,rfl,rfl,⋯,⋯⟩,?_⟩
  rintro mm σ H' ⟨t,rfl,rfl,rfl,h2,ht⟩
  refine ⟨_,rfl,t,rfl,⋯,λhp=>⟨_,rfl,?_⟩,λhp=>⟨_,rfl,?_⟩⟩
  · refine ZeF ?_
    exact ⟨_,rfl,k _ t S (.inr ⟨hp,⋯⟩)⟩
  · refine ZfG ?_
    refine ⟨_,λ_ _ h=>h,?_⟩
    have hne:t≠999983:=λz=>hp (by rw[z]; exact M2.prm_big)
    refine ⟨_,rfl,_,_,rfl,rfl,?_⟩
    exact ⟨_,⋯,t+1,rfl,rfl,rfl,⋯,⋯⟩
end
inductive ZfD (CF CR:Addr) (vs:List V) (H:Hp) (Q:VK) (zE:XK):Prop
  | mk (p:Int) (_:vs=[.int p]) (_:PK p) (_:∀(H':Hp) (k:Addr),Same H H'->KdA CF CR p H' k->Q (.ref k) H'):ZfD CF CR vs H Q zE
section
variable{P:Program}{w:World}{K:PySem.W.Frag}{mg:Str->Option Value}{base:Heap}{CF CR cN:Addr}
theorem Zlk:FnScope ["_law_prime_here"] ["_law_prime_here"] (Zag Zgb):=‹2›
theorem Zll(h:Here K mg "_law_kind" Zgb) (kd:Kd K mg CF CR) (hI:HasI P w K mg base CR 2 ["self", "prime"] (Zgm CR)):Has P w K mg base "_law_kind" 4 ["_law_prime_here"] (ZfD CF CR):=by
  refine h.has (λf fd F=>F.binds λ_ _ _ _ _ _ us hl=>by obtain ⟨_,rfl⟩:=Zlp hl; exact rfl) λf fd F=>F.ok Zlk (λvs H Q E h=>?_) (λcdv A outer s H vs Q E hr h=>?_)
  · obtain ⟨_,rfl,_⟩:=h
    rfl
  obtain ⟨p,rfl,hp,k⟩:=h
  refine ⟨_,(Zab (ZaC (Zaq Zbh (pv 0) Zad (Zap _)) (Zae (Zaj (ZjY kd.mkF (by rfl) kd.mgF))) Zat)
    (Zae (Zaj (ZlH hI hr (by rfl) kd.mgR (Zaa (pv 0) Zac))))),?_⟩
  refine ⟨_,rfl,rfl,_,rfl,?_⟩
  refine ZbC (λz=>?_) (λz=>?_)
  · intro f0 df0 nf0 ndf0 nef0
    refine k _ f0 (λb o e=>?_) (.inl ⟨z,df0,Zaf⟩)
    rw[Zas (ZaF e nf0),Zas (ZaF e ndf0)]; exact e
  · rcases hp with rfl | ⟨pr1,lp1⟩
    · exact absurd rfl z
    refine ⟨_,rfl,λx1 dx1 nx1 ndx1 nex1=>⟨x1,dx1,p,rfl,Zaf,pr1,lp1,rfl,?_⟩⟩
    refine k _ x1 (λb o e=>?_) (.inr ⟨pr1,lp1,dx1,Zaf⟩)
    rw[Zas (ZaF e nx1),Zas (ZaF e nx1),Zas (ZaF e ndx1)]; exact e
end
section
variable{P:Program}{w:World}{K:PySem.W.Frag}{mg:Str->Option Value}{base:Heap}
theorem sc_l_size:FnScope ["_law_prime_here", "_law_cell_here"] ["_law_prime_here", "_law_cell_here"] (Zag Zgf):=‹2›
theorem Zii(h:Here K mg "_law_size" Zgf) (T:Nm mg):Has P w K mg base "_law_size" 1 ["_law_prime_here", "_law_cell_here"] ZcF:=by
  refine h.has (λf fd F=>F.binds λ_ _ _ _ _ _ us hl=>by obtain ⟨_,_,rfl⟩:=ZdM hl; exact rfl) λf fd F=>F.ok sc_l_size (λvs H Q E h=>?_) (λcdv A outer s H vs Q E hr h=>?_)
  · obtain ⟨_,_,rfl,_⟩:=h
    rfl
  obtain ⟨κ,c,rfl,hb,k⟩:=h
  have nd:=sc_l_size.nd
  refine ⟨_,(Zae (Zaj (Zal Za6 Zad (Zal ZaS (Zal Zbp (Zal Zdo (pv 1) Zad) Zad) (Zar Zav (Zdp (Zaa Zad (Zaa Zad Zac))) (ZbB ZeU (by rfl) T.int boot_int (Zaa (ZaM Zf1 (pv 0) Zad (Zap _)) Zac)) (λ_ _=>rfl)))))),?_⟩
  have emo:atI [V.int 3,V.int 7] (if decide ((0:Int)<κ.P)=true then 1 else 0)=some (.int (Zlq κ:Int)):=by
    cases κ with
    | q=>rfl
    | r p hp=>rw[if_pos (decide_eq_true ZhX)]; rfl
  have mp:=ZiW κ
  refine ⟨_,rfl,_,_,rfl,rfl,.inr ⟨∅,∅⟩,_,_,rfl,rfl,(by show (0:Int)<_; decide),(by show 2<=sizeLine; decide),λl n=>?_⟩
  have S1:=Zah n (.lst [.int 3,.int 7])
  have q1:=Zaf (H:=H) (a:=l) (o:=.lst [.int 3,.int 7])
  generalize upd H l (.lst [.int 3,.int 7])=H1 at *
  refine ⟨_,rfl,_,_,rfl,rfl,.inr ⟨_,rfl,l,_,_,_,rfl,rfl,SqL.of q1,emo,_,_,rfl,rfl,(show (Zlq κ:Int)≠0 by omega),_,_,rfl,rfl,?_⟩⟩
  have e:(1:Int)+(c*48271%65537).fmod (Zlq κ:Int)=((szN κ c:Nat):Int):=by
    have a:=Wd (c*48271%65537) (show (Zlq κ:Int)≠0 by omega)
    rw[Qy _ ⋯]
    unfold szN
    omega
  have:=k H1 S1
  rw[<-e] at this
  exact this
theorem sc_l_exponent:FnScope ["_law_prime_here", "_law_cell_here", "_law_size_here", "_law_most"] ["_law_prime_here", "_law_cell_here"] (Zag ZcX):=‹2›
theorem ZfE(h:Here K mg "_law_exponent" ZcX) (h_l_size:Has P w K mg base "_law_size" 1 ["_law_prime_here", "_law_cell_here"] ZcF):Has P w K mg base "_law_exponent" 2 ["_law_prime_here", "_law_cell_here"] ZcG:=by
  refine h.has (λf fd F=>F.binds λ_ _ _ _ _ _ us hl=>by obtain ⟨_,_,rfl⟩:=ZdM hl; exact rfl) λf fd F=>F.ok sc_l_exponent (λvs H Q E h=>?_) (λcdv A outer s H vs Q E hr h=>?_)
  · obtain ⟨_,_,rfl,_⟩:=h
    rfl
  obtain ⟨κ,c,rfl,hb,k⟩:=h
  have nd:=sc_l_exponent.nd
  refine ⟨_,(Zab (Zak (i:=2) nd rfl (Or.inl rfl) (Zao h_l_size hr (by rfl) (Zaa (pv 0) (Zaa (pv 1) Zac))))
    (Zab (Zak (i:=3) nd rfl (Or.inl rfl) Zad)
    (Zab (ZaC (Zaq Zbh (pv 0) Zad (Zap _)) (Zae (Zak (i:=3) nd rfl (Or.inl rfl) (Zar Zav (Zdp (Zaa Zad (Zaa Zad (Zaa Zad Zac)))) (Zal Zb4 (pv 2) Zad) (λ_ _=>rfl)))) (Zae (ZaC (Zaq Zca (pv 2) Zad (Zap _)) (Zae (Zak (i:=3) nd rfl (Or.inl rfl) Zad)) Zat)))
    (Zae (Zaj (Zal Zb4 (Zal ZaS (Zal Zbp (Zal Zdo (pv 1) Zad) Zad) (Zal Za6 (Zal Zdo Zad (pv 3)) Zad)) (pv 3))))))),?_⟩
  obtain ⟨z1,z2,z3⟩:=Zd1 κ c
  have fin:∀(m:Nat),m=mst κ (szN κ c)->(c*40692%65543).fmod (2*(m:Int)+1)-(m:Int)=exN κ c:=λm e=>by
    rw[e,Qy _ ⋯]
    rfl
  refine ⟨_,rfl,_,rfl,κ,c,rfl,hb,λH1 S1=>?_⟩
  refine ⟨_,rfl,rfl,_,rfl,?_⟩
  cases κ with
  | q =>
    refine ZbC (λ_=>?_) (λz=>absurd rfl z)
    refine ⟨(by show 3<=sizeLine; decide),λl n=>?_⟩
    have S2:=Zah n (.lst [.int 60,.int 12,.int 6])
    have q2:=Zaf (H:=H1) (a:=l) (o:=.lst [.int 60,.int 12,.int 6])
    generalize upd H1 l (.lst [.int 60,.int 12,.int 6])=H2 at *
    have at3:atI [V.int 60,V.int 12,V.int 6] ((szN .q c:Int)-1)=some (.int (mst .q (szN .q c):Int)):=by
      have z2:szN .q c<=3:=z2
      generalize szN .q c=s at *
      obtain rfl | rfl | rfl:s=1\/s=2\/s=3:=by omega
      · rfl
      · rfl
      · rfl
    refine ⟨_,rfl,_,_,rfl,rfl,l,_,_,_,rfl,rfl,SqL.of q2,at3,?_⟩
    refine ⟨_,rfl,_,_,rfl,rfl,.inr ⟨∅,∅⟩,_,_,rfl,rfl,(by show (0:Int)<_; decide),_,rfl,_,_,rfl,rfl,.inl ⟨∅,∅⟩,_,_,rfl,rfl,_,_,rfl,rfl,(show (2*(mst .q (szN .q c):Int)+1)≠0 by omega),_,rfl,_,_,rfl,rfl,?_⟩
    have:=k H2 (S1.trans S2)
    rw[<-fin _ rfl] at this
    exact this
  | r p hp =>
    have pp:(0:Int)<(KX.r p hp).P:=ZhX
    refine ZbC (λz=>absurd (show (KX.r p hp).P=0 from z) ⋯) (λ_=>?_)
    refine ⟨_,rfl,_,_,rfl,rfl,_,rfl,?_⟩
    refine Za3 (λz=>?_) (λz=>?_)
    · have z:(szN (.r p hp) c:Int)<4:=z
      refine ⟨_,rfl,_,_,rfl,rfl,.inr ⟨∅,∅⟩,_,_,rfl,rfl,(by show (0:Int)<_; decide),_,rfl,_,_,rfl,rfl,.inl ⟨∅,∅⟩,_,_,rfl,rfl,_,_,rfl,rfl,∅,_,rfl,_,_,rfl,rfl,?_⟩
      have:=k H1 S1
      rw[<-fin 12 (by show 12=if _ then _ else _; rw[if_pos ⋯])] at this
      exact this
    · have z:¬(szN (.r p hp) c:Int)<4:=z
      refine ⟨_,rfl,_,_,rfl,rfl,.inr ⟨∅,∅⟩,_,_,rfl,rfl,(by show (0:Int)<_; decide),_,rfl,_,_,rfl,rfl,.inl ⟨∅,∅⟩,_,_,rfl,rfl,_,_,rfl,rfl,∅,_,rfl,_,_,rfl,rfl,?_⟩
      have:=k H1 S1
      rw[<-fin 4 (by show 4=if _ then _ else _; rw[if_neg ⋯])] at this
      exact this
theorem Zlm:FnScope ["_law_prime_here", "_law_size_here"] ["_law_prime_here", "_law_size_here"] (Zag Zgg):=‹2›
theorem Zij(h:Here K mg "_law_unit" Zgg) (T:Nm mg) (h_l_made:Has P w K mg base "_law_made" 3 ["_law_prime_here", "_law_number_here"] ZbQ):Has P w K mg base "_law_unit" 4 ["_law_prime_here", "_law_size_here"] ZdI:=by
  refine h.has (λf fd F=>F.binds λ_ _ _ _ _ _ us hl=>by obtain ⟨_,_,rfl⟩:=ZdM hl; exact rfl) λf fd F=>F.ok Zlm (λvs H Q E h=>?_) (λcdv A outer s H vs Q E hr h=>?_)
  · obtain ⟨_,_,rfl,_⟩:=h
    rfl
  obtain ⟨κ,n,rfl,n1,n7,k⟩:=h
  refine ⟨_,(Zae (Zaj (ZlQ "_law_i" ["_law_i"] [(1, "_law_size_here"),(0, "_law_prime_here")] rfl (ZaN (by rfl) T.range (Zaa (pv 1) Zac)) (by exact λ_ _ _ _=>(Zau (i:=0) (show (["_law_i", "_law_size_here", "_law_prime_here"]:List Str).Nodup by decide +kernel) rfl (by first | exact Or.inl rfl | exact Or.inr rfl))) (by exact λ_ _ _ _=>(Za2 ["_law_j"] [(2, "_law_prime_here"),(0, "_law_i")] rfl (ZaN (by rfl) T.range (Zaa (pv 1) Zac)) (by exact λ_ _ _ _=>(Zau (i:=0) (show (["_law_j", "_law_prime_here", "_law_i"]:List Str).Nodup by decide +kernel) rfl (Or.inl rfl))) (by exact λ_ _ _ _=>(Zao h_l_made hr (by rfl) (Zaa (pv 1) (Zaa (ZbB ZeU (by rfl) T.int boot_int (Zaa (ZaM Zbh (pv 2) (pv 0) (Zap _)) Zac)) Zac)))) ⟨⟨rfl,rfl,Or.inl rfl⟩,⟨⟨rfl,rfl,by first | exact Or.inl rfl | exact Or.inr rfl⟩,trivial⟩⟩)) ⟨⟨rfl,rfl,Or.inl rfl⟩,⟨⟨rfl,rfl,Or.inl rfl⟩,trivial⟩⟩ ⟨by decide +kernel,rfl,λ_ _=>rfl,λ_=>rfl⟩))),?_⟩
  refine ⟨_,rfl,(n:Int),rfl,⋯,⋯,?_⟩
  rw[Q7]
  refine ZbP (lo:=0) (n:=n) (λq ys H4=>Same H H4/\∃rs:List Addr,ys=rs.map V.ref/\RowsX κ H4 rs ((List.range q).map λi=>Zh5 κ n i)) ⋯ ⟨Same.refl _,[],rfl,.nil⟩ ?_ ?_
  · rintro q ys H4 _ _ ⟨S4,rs,rfl,rx⟩
    refine ⟨_,rfl,(n:Int),rfl,⋯,⋯,?_⟩
    rw[Q7]
    refine ZbP (lo:=0) (n:=n) (λj zs H5=>Same H4 H5/\AllG (NR κ H5) zs ((List.range j).map λj=>if q=j then (1:κ.F) else 0)) ⋯ ⟨Same.refl _,.nil⟩ ?_ ?_
    · rintro j zs H5 _ _ ⟨S5,e5⟩
      refine ⟨_,rfl,_,rfl,_,rfl,rfl,.inr ⟨_,rfl,κ,_,if q=j then 1 else 0,rfl,?_,λH6 v S6 nv=>?_⟩⟩
      · show NumV κ (if decide (V.int (0+(q:Int))=V.int (0+(j:Int)))=true then 1 else 0) _
        by_cases c:q=j
        · rw[if_pos c,if_pos (by rw[decide_eq_true_eq]; congr 1; omega)]; exact Zfq
        · rw[if_neg c,if_neg (by rw[decide_eq_true_eq]; intro z; have:=V.int.inj z; omega)]; exact Zkx
      · rw[Ur,Qj]
        exact ⟨S5.trans S6,(e5.mono λ_ _ n=>n.same S6).append (.one nv)⟩
    · rintro zs H5 _ ⟨S5,e5⟩ D nD
      have SD:=Zah nD (.lst zs)
      refine ⟨S4.trans (S5.trans SD),rs++[D],by simp,?_⟩
      rw[Ur,Qj]
      exact ((rx.same S5).same SD).snoc Zaf (e5.mono λ_ _ n=>n.same SD)
  rintro ys H1 _ ⟨S1,ss,rfl,rxs⟩ sa nsa
  have Ssa:=Zah nsa (.lst (ss.map V.ref))
  exact k _ sa ss (S1.trans Ssa) Zaf (rxs.same Ssa)
end
end My
namespace My
open PySem L2 PyProof.Rows
section
variable{P:Program}{w:World}{K:PySem.W.Frag}{mg:Str->Option Value}{base:Heap}
theorem sc_l_drawn:FnScope ["_law_prime_here", "_law_cell_here", "_law_wide", "_law_top"] ["_law_prime_here", "_law_cell_here", "_law_wide"] (Zag Zff):=‹2›
theorem Zhs(h:Here K mg "_law_drawn" Zff) (h_l_lowest:Has P w K mg base "_law_lowest" 2 ["_law_top", "_law_bottom"] Zfo):Has P w K mg base "_law_drawn" 3 ["_law_prime_here", "_law_cell_here", "_law_wide"] Zc8:=by
  refine h.has (λf fd F=>F.binds λ_ _ _ _ _ _ us hl=>by obtain ⟨_,_,_,rfl⟩:=Zdq hl; exact rfl) λf fd F=>F.ok sc_l_drawn (λvs H Q E h=>?_) (λcdv A outer s H vs Q E hr h=>?_)
  · obtain ⟨_,_,_,rfl,_⟩:=h
    rfl
  obtain ⟨κ,c,wb,rfl,hb,k⟩:=h
  have nd:=sc_l_drawn.nd
  refine ⟨_,(Zab (ZaC (Zaq Zf1 (pv 0) Zad (Zap _)) (Zae (Zaj (Zal ZaS (pv 1) (pv 0)))) Zat)
    (Zab (Zak (i:=3) nd rfl (Or.inl rfl) (Zal Zb4 (Zal Zbp (Zal Zhy (pv 1) Zad) Zad) Zad))
    (Zab (ZaC (ZeS (Zbo (pv 2)) (Zdu (Zaq Zbh (Zal Zbp (pv 1) Zad) Zad (Zap _)))).pt (Zae (Zak (i:=3) nd rfl (Or.inl rfl) (Zal Zb4 (Zal Zbp (Zal Zb4 (Zal Za6 (Zal Zhy (pv 1) Zad) (Zal ZjJ Zad Zad)) Zad) (Zal Zb4 (Zal Zdo Zad (Zal ZjJ Zad Zad)) Zad)) (Zal Zb4 (Zal ZjJ Zad Zad) Zad)))) Zat)
    (Zae (Zaj (Zao h_l_lowest hr (by rfl) (Zaa (pv 3) (Zaa (Zal Za6 Zad (Zal Zbp (Zal Zdo (Zal ZaB (pv 1) (pv 1)) Zad) Zad)) Zac)))))))),?_⟩
  refine ⟨_,rfl,_,_,rfl,rfl,_,rfl,?_⟩
  cases κ with
  | r p hp =>
    obtain ⟨x,hx⟩:=Zow hp c
    refine Zbv (show (0:Int)<(KX.r p hp).P from ZhX) ⟨_,rfl,_,rfl,_,_,rfl,rfl,(show (p:Int)≠0 by have:=hp.two; omega),k H _ x (Same.refl H) ?_ trivial⟩
    show V.int (c.fmod p)=V.int x.val
    rw[hx]
  | q =>
    refine Zb6 (show ¬(0:Int)<0 by decide) ?_
    refine ⟨_,rfl,_,_,rfl,rfl,⟨∅,∅⟩,_,_,rfl,rfl,(by show (0:Int)<_; decide),_,_,rfl,rfl,?_⟩
    have b1:1<=1+c*c*48271%6/\1+c*c*48271%6<=6:=by
      generalize c*c*48271=e
      omega
    have kk:∀(t:Int) (r:Addr),t.natAbs<=toN wb->H r=none->Q (.ref r) (upd H r (.tup [.int (Rat.divInt t (1+c*c*48271%6)).num,.int ((Rat.divInt t (1+c*c*48271%6)).den:Int)])):=λt r ht n =>
      k _ _ (Rat.divInt t (1+c*c*48271%6)) (Zah n _) ⟨r,rfl,Zaf⟩ (Zqm b1.1 b1.2 ht)
    have fit:Bits 8000 (1+c*c*48271%6):=Bits.of (Q5 (show _<2^3 by show _<8; omega) (Qa ∅ ∅))
    have low:∀(_:True),(0:Nat)=0:=λ_=>rfl
    refine ⟨_,rfl,_,rfl,?_⟩
    cases wb with
    | false =>
      refine ZeF ?_
      refine ⟨_,rfl,_,rfl,_,rfl,_,_,rfl,rfl,hb.mul hb,_,_,rfl,rfl,.inr ⟨∅,∅⟩,_,_,rfl,rfl,(by show (0:Int)<_; decide),_,_,rfl,rfl,_,_,rfl,(by show 0<1+c*c*48271%6; omega),fit,λr nr=>kk _ r ?_ nr⟩
      show (c/5%13-6:Int).natAbs<=6
      omega
    | true =>
      refine ZfG ⟨_,rfl,_,_,rfl,rfl,(by show (0:Int)<_; decide),rfl,_,rfl,?_⟩
      refine ZbC (λ_=>?_) (λ_=>?_)
      · refine ⟨_,rfl,_,_,rfl,rfl,⟨∅,∅⟩,_,_,rfl,rfl,⟨∅,∅,∅⟩,_,_,rfl,rfl,_,_,rfl,rfl,_,_,rfl,rfl,⟨∅,∅,∅⟩,_,_,rfl,rfl,.inl ⟨∅,∅⟩,_,_,rfl,rfl,_,_,rfl,rfl,(by show (0:Int)<_; decide),_,_,rfl,rfl,⟨∅,∅,∅⟩,_,_,rfl,rfl,_,_,rfl,rfl,?_⟩
        refine ⟨_,rfl,_,rfl,_,rfl,_,_,rfl,rfl,hb.mul hb,_,_,rfl,rfl,.inr ⟨∅,∅⟩,_,_,rfl,rfl,(by show (0:Int)<_; decide),_,_,rfl,rfl,_,_,rfl,(by show 0<1+c*c*48271%6; omega),fit,λr nr=>kk _ r ?_ nr⟩
        show ((c/5+10^59-1)%(2*10^59-1)-(10^59-1):Int).natAbs<=10^59
        omega
      · refine ⟨_,rfl,_,rfl,_,rfl,_,_,rfl,rfl,hb.mul hb,_,_,rfl,rfl,.inr ⟨∅,∅⟩,_,_,rfl,rfl,(by show (0:Int)<_; decide),_,_,rfl,rfl,_,_,rfl,(by show 0<1+c*c*48271%6; omega),fit,λr nr=>kk _ r ?_ nr⟩
        show (c/5%13-6:Int).natAbs<=10^59
        omega
end
end My
namespace My
open PySem L2 PyProof.Rows
section
variable{P:Program}{w:World}{K:PySem.W.Frag}{mg:Str->Option Value}{base:Heap}
theorem sc_l_product:FnScope ["_law_prime_here", "_law_one", "_law_other", "_law_found", "_law_row", "_law_line", "_law_j", "_law_here", "_law_x", "_law_more"] ["_law_prime_here", "_law_one", "_law_other"] (Zag ZdC):=‹2›
theorem ZfN(h:Here K mg "_law_product" ZdC) (T:Nm mg) (Tz:mg "zip" = none) (h_l_times:Has P w K mg base "_law_times" 3 ["_law_prime_here", "_law_one", "_law_other"] (Zb8 λ_ x y=>x*y)) (h_l_plus:Has P w K mg base "_law_plus" 3 ["_law_prime_here", "_law_one", "_law_other"] (Zb8 λ_ x y=>x+y)) (h_l_made:Has P w K mg base "_law_made" 3 ["_law_prime_here", "_law_number_here"] ZbQ):Has P w K mg base "_law_product" 4 ["_law_prime_here", "_law_one", "_law_other"] Zch:=by
  refine h.has (λf fd F=>F.binds λ_ _ _ _ _ _ us hl=>by obtain ⟨_,_,_,rfl⟩:=Zdq hl; exact rfl) λf fd F=>F.ok sc_l_product (λvs H Q E h=>?_) (λcdv A outer s H vs Q E hr h=>?_)
  · obtain ⟨_,_,_,_,_,_,_,_,_,_,_,_,rfl,_⟩:=h
    rfl
  obtain ⟨κ,a,b,rs,ss,R,S,n,D,Ed,M,N,rfl,hA,rR,hB,rS,lR,wR,lS,wS,n1,n7,qR,qS,pl,k⟩:=h
  have nd:=sc_l_product.nd
  refine ⟨_,(Zab (Zak (i:=3) nd rfl (Or.inl rfl) (Zdp Zac))
    (Zab (Zbf PassesOwn.never rfl (ZaI (pv 1)) (Zau (i:=4) nd rfl (Or.inl rfl)) (Zab (Zak (i:=5) nd rfl (Or.inl rfl) (Zdp Zac))
      (Zab (Zbf PassesOwn.never rfl (ZaN (by rfl) T.range (Zaa (Zam Zai (by rfl) T.len boot_len (Zaa (Zar Zav (pv 2) Zad (λ_ _=>rfl)) Zac)) Zac)) (Zau (i:=6) nd rfl (Or.inl rfl)) (Zab (Zak (i:=7) nd rfl (Or.inl rfl) (Zao h_l_made hr (by rfl) (Zaa (pv 0) (Zaa Zad Zac))))
        (Zab (Zbf PassesOwn.never rfl (Zha (by rfl) Tz (Zaa (pv 4) (Zaa (pv 2) Zac))) (ZjG rfl (Zby (Zau (i:=8) nd rfl (Or.inl rfl)) (Zby (Zau (i:=9) nd rfl (Or.inl rfl)) ZeT))) (Zae (Zak (i:=7) nd rfl (Or.inl rfl) (Zao h_l_plus hr (by rfl) (Zaa (pv 0) (Zaa (pv 7) (Zaa (Zao h_l_times hr (by rfl) (Zaa (pv 0) (Zaa (pv 8) (Zaa (Zar Zav (pv 9) (pv 6) (λ_ _=>rfl)) Zac)))) Zac)))))))
        (Zae (ZaL (Zf3 PySem.F.plainAttrs_list PySem.F.slot_list_append PySem.F.type_list_append Zci (pv 5) (Zaa (pv 7) Zac)))))))
      (Zae (ZaL (Zf3 PySem.F.plainAttrs_list PySem.F.slot_list_append PySem.F.type_list_append Zci (pv 3) (Zaa (pv 5) Zac)))))))
    (Zae (Zaj (pv 3))))),?_⟩
  have lr:=rR.1
  have ls:=rS.1
  have dp:=pl.d
  have ep:=pl.e
  have hDE:(0:Int)<((D*Ed:Nat):Int):=by have:=Wa dp ep; omega
  have lMN:∀k,k<=7->k*(M*N)<2^3000:=λk hk=>Qc (U9 _ hk) pl.mn
  have e1:∀i j,QN κ (D:Int) M (ent R i j):=λi j=>Zlc qR i j
  have e2:∀i j,QN κ (Ed:Int) N (ent S i j):=λi j=>Zlc qS i j
  have pt:∀i j t,QN κ ((D*Ed:Nat):Int) (t*(M*N)) (Sg (λl=>ent R i l*ent S l j) t):=λi j t=>ZoO hDE t λl _=>(e1 i l).mulN (e2 l j)
  refine ⟨(by show 0<=sizeLine; decide),λfo nfo=>?_⟩
  have Sf:=Zah nfo (.lst [])
  have qf:=Zaf (H:=H) (a:=fo) (o:=.lst [])
  generalize upd H fo (.lst [])=H1 at *
  refine ⟨_,rfl,a,rfl,⟨_,SqL.of (Sf _ _ hA)⟩,?_⟩
  refine Zcn (K:=K) (a:=a) (xs:=rs.map V.ref) (λi σ H2=>∃(z4 z5 z6 z7 z8 z9:Option V) (ds:List Addr) (X:List (List κ.F)),σ=[some (.int κ.P),some (.ref a),some (.ref b),some (.ref fo),z4,z5,z6,z7,z8,z9]/\Same H H2/\H2 fo=some (.lst (ds.map V.ref))/\RowsX κ H2 ds X/\X.length=i/\(∀t,t<i->X.getD t []=(List.range n).map λj=>Sg (λl=>ent R t l*ent S l j) n)/\fo∉ds/\∀z∈ds,H z=none) ⟨_,_,_,_,_,_,[],[],rfl,Sf,qf,.nil,rfl,(λt ht=>absurd ht (Nat.not_lt_zero t)),(λz=>nomatch z),λz hz=>nomatch hz⟩ ?_ ?_ ?_
  · rintro i σ H2-⟨z4,z5,z6,z7,z8,z9,ds,X,rfl,S2,-⟩
    exact SqL.of (S2 _ _ hA)
  · rintro i x σ H2 hx ⟨z4,z5,z6,z7,z8,z9,ds,X,rfl,S2,hF,rX,lX,eX,nf,fd⟩
    obtain ⟨ra,hra,rfl⟩:=Zax hx
    have hi:i<n:=by have:=(Qw.mp hra).1; omega
    obtain ⟨f,hf⟩:=Zaw hra lr
    obtain ⟨xs,hxs,ax⟩:=rR.2 i ra f hra hf
    have ef:∀l,f.getD l 0=ent R i l:=λl=>by
      unfold ent
      rw[ZaD hf]
    have lf:f.length=n:=wR f (Q9 hf)
    refine ⟨(by show 0<=sizeLine; decide),λla nla=>?_⟩
    have Sl:=Zah nla (.lst [])
    have ql:=Zaf (H:=H2) (a:=la) (o:=.lst [])
    have nlf:la≠fo:=λz=>by rw[z,hF] at nla; cases nla
    have nld:la∉ds:=rX.notin nla
    generalize upd H2 la (.lst [])=H3 at *
    obtain ⟨s0,hs0⟩:∃s0,ss[0]?=some s0:=⟨_,Q2 ⋯⟩
    obtain ⟨f0,hf0⟩:=Zaw hs0 ls
    obtain ⟨x0,hx0,ax0⟩:=rS.2 0 s0 f0 hs0 hf0
    have l0:x0.length=n:=by rw[ax0.1]; exact wS f0 (Q9 hf0)
    have S03:=S2.trans Sl
    refine ⟨_,rfl,b,_,0,_,rfl,rfl,SqL.of (S03 _ _ hB),Zbq (i:=0) hs0,s0,_,rfl,.inl (SqL.of (S03 _ _ hx0)),(n:Int),(by rw[l0]),⋯,⋯,?_⟩
    rw[Q7]
    refine Zba (lo:=0) (n:=n) (λj σ H4=>∃(z6 z7 z8 z9:Option V) (ys:List V),σ=[some (.int κ.P),some (.ref a),some (.ref b),some (.ref fo),some (.ref ra),some (.ref la),z6,z7,z8,z9]/\Off [la] H3 H4/\H4 la=some (.lst ys)/\AllG (NR κ H4) ys ((List.range j).map λj=>Sg (λl=>ent R i l*ent S l j) n)) ⟨_,_,_,_,[],rfl,λ_ _ _ q=>q,ql,.nil⟩ ?_ ?_
    · rintro j σ H4 hj ⟨z6,z7,z8,z9,ys,rfl,O4,hla,ay⟩
      have S4:Same H H4:=Off.same O4 S03 λz hz=>by rw[Q6.mp hz]; exact S2.free nla
      refine ⟨_,rfl,κ,0,0,rfl,Zkx,λH5 v0 S5 n0=>?_⟩
      have S05:=S4.trans S5
      refine ⟨_,rfl,_,rfl,ra,b,rfl,⟨_,SqL.of (S05 _ _ hxs)⟩,⟨_,SqL.of (S05 _ _ hB)⟩,?_⟩
      refine Zj9 (K:=K) (a:=ra) (b:=b) (xs:=xs) (ys:=ss.map V.ref) (λt σ H6=>∃(z8 z9:Option V) (u:V),σ=[some (.int κ.P),some (.ref a),some (.ref b),some (.ref fo),some (.ref ra),some (.ref la),some (.int (0+(j:Int))),some u,z8,z9]/\Same H5 H6/\t<=n/\NR κ H6 u (Sg (λl=>ent R i l*ent S l j) t)) ⟨_,_,v0,rfl,Same.refl _,Qk _,n0⟩ (λt σ H6 ⟨_,_,_,_,S6,_⟩=>⟨SqL.of ((S05.trans S6) _ _ hxs),SqL.of ((S05.trans S6) _ _ hB)⟩) ?_ ?_
      · rintro t x y Tp σ H6 hx hy nT ⟨z8,z9,u,rfl,S6,tn,nu⟩
        obtain ⟨sa,hsa,rfl⟩:=Zax hy
        have ht:t<n:=by have:=(Qw.mp hsa).1; omega
        have ST:=Zah nT (.tup [x,.ref sa])
        have qT:=Zaf (H:=H6) (a:=Tp) (o:=.tup [x,.ref sa])
        generalize upd H6 Tp (.tup [x,.ref sa])=H7 at *
        have S57:=S6.trans ST
        have S07:=S05.trans S57
        obtain ⟨vx,hvx,nx⟩:=Zh9 ax (i:=t) ⋯
        rw[hx] at hvx
        obtain rfl:=Option.some.inj hvx
        rw[ef] at nx
        obtain ⟨g,hg⟩:=Zaw hsa ls
        obtain ⟨ws,hws,aw⟩:=rS.2 t sa g hsa hg
        have lg:=wS g (Q9 hg)
        obtain ⟨vy,hvy,ny⟩:=Zh9 aw (i:=j) ⋯
        have eg:g.getD j 0=ent S t j:=by unfold ent; rw[ZaD hg]
        rw[eg] at ny
        refine ⟨Tp,[x,.ref sa],rfl,SqT.of qT,rfl,_,_,rfl,_,_,rfl,rfl,?_⟩
        refine ⟨_,rfl,_,rfl,_,rfl,_,rfl,_,rfl,_,rfl,sa,_,_,_,rfl,rfl,SqL.of (S07 _ _ hws),(by rw[Qr]; exact ZbE hvy),κ,x,vy,_,_,rfl,nx.same S07,ny.same S07,Zc9 (e1 i t) dp pl.dl pl.m,Zc9 (e2 t j) ep pl.el pl.n,λH8 w8 S8 n8=>?_⟩
        refine ⟨κ,u,w8,_,_,rfl,(nu.same ST).same S8,n8,Zc9 (pt i j t) (Wa dp ep) pl.de (lMN t ⋯),Zc9 ((e1 i t).mulN (e2 t j)) (Wa dp ep) pl.de (by have:=lMN 1 ∅; rwa [Nat.one_mul] at this),λH9 w9 S9 n9=>?_⟩
        exact ⟨_,_,w9,rfl,S57.trans (S8.trans S9),ht,n9⟩
      · rintro t σ H6 et ⟨z8,z9,u,rfl,S6,tn,nu⟩
        have et:t=n:=by
          rw[et,Q1,ax.1,lf,ls,lS]
          exact Nat.min_self n
        subst et
        have S46:=S5.trans S6
        have hl6:=S46 _ _ hla
        refine ⟨_,rfl,.inl ⟨rfl,_,SqL.of hl6⟩,_,rfl,la,_,_,rfl,rfl,hl6,Q5 (show ys.length<1000 by rw[ay.1,Q1,List.length_range]; omega) ∅,?_⟩
        have Oa:Off [la] H6 (upd H6 la (.lst (ys++[u]))):=Za4 (Same.refl H6)
        refine ⟨_,_,_,_,ys++[u],rfl,λz o nz q=>Oa z o nz (S46 _ _ (O4 z o nz q)),Zaf,?_⟩
        rw[Ur,Qj]
        exact (ay.mono λ_ _ n=>(n.same S46).off hl6 Oa).append (.one (nu.off hl6 Oa))
    · rintro σ H4 ⟨z6,z7,z8,z9,ys,rfl,O4,hla,ay⟩
      have S4:Same H H4:=Off.same O4 S03 λz hz=>by rw[Q6.mp hz]; exact S2.free nla
      have S24:Same H2 H4:=Off.same O4 Sl λz hz=>by rw[Q6.mp hz]; exact nla
      have hF4:=S24 _ _ hF
      refine ⟨_,rfl,.inl ⟨rfl,_,SqL.of hF4⟩,_,rfl,fo,_,_,rfl,rfl,hF4,Q5 (show (ds.map V.ref).length<1000 by rw[Q1,rX.1]; omega) ∅,?_⟩
      have Of:Off [fo] H4 (upd H4 fo (.lst (ds.map V.ref++[.ref la]))):=Za4 (Same.refl H4)
      refine ⟨_,_,_,_,_,_,ds++[la],X++[(List.range n).map λj=>Sg (λl=>ent R i l*ent S l j) n],rfl,Off.same Of S4 (λz hz=>by rw[Q6.mp hz]; exact nfo),by rw[Zaf,Qj]; rfl,((rX.same S24).off nf hF4 Of).snoc (Of _ _ (λz=>nlf (Q6.mp z)) hla) (ay.mono λ_ _ n=>n.off hF4 Of),by rw[Qd,lX]; rfl,λt ht=>?_,λz=>?_,λz hz=>?_⟩
      · by_cases e:t=i
        · subst e
          rw[Q3,Wg ⋯,lX,Um]; rfl
        · rw[Q3,Wh ⋯,<-Q3]
          exact eX t ⋯
      · rcases Qf.mp z with q | q
        · exact nf q
        · exact nlf (Q6.mp q).symm
      · rcases Qf.mp hz with q | q
        · exact fd z q
        · rw[Q6.mp q]; exact S2.free nla
  · rintro σ H2 ⟨z4,z5,z6,z7,z8,z9,ds,X,rfl,S2,hF,rX,lX,eX,nf,fd⟩
    rw[Q1,lr,lR] at lX eX
    have gd:∀f∈X,∃i<n,f=X.getD i []:=λf hf=>by
      obtain ⟨i,hi,e⟩:=Wf hf
      exact ⟨i,⋯,by rw[ZaD (Q2 hi)]; exact e.symm⟩
    refine ⟨_,rfl,k H2 fo ds X S2 hF rX lX (λf hf=>?_) (λi j hi hj=>?_) (λf hf x hx=>?_)⟩
    · obtain ⟨i,hi,rfl⟩:=gd f hf
      rw[eX i hi,Q1,List.length_range]
    · show (X.getD i []).getD j 0=_
      rw[eX i hi,Q3,Qg,Uq hj]
      rfl
    · obtain ⟨i,hi,rfl⟩:=gd f hf
      rw[eX i hi] at hx
      obtain ⟨j,_,rfl⟩:=Qi.mp hx
      exact pt i j n
end
end My
namespace My
open PySem L2 PyProof.Rows
theorem Zn1{α β:Type}(f:α->β){R:List α}{q a:Nat}(ha:a<R.length){y:α}(hy:R[a]?=some y):(mvT R q a).map f=((R.map f).eraseIdx a).take q++f y::((R.map f).eraseIdx a).drop q:=by
  unfold mvT
  have e:(R.eraseIdx a).map f=(R.map f).eraseIdx a:=by
    rw[List.eraseIdx_eq_take_drop_succ,List.eraseIdx_eq_take_drop_succ,Qj,List.map_take,List.map_drop]
  rw[hy,<-e,<-List.map_take,<-List.map_drop]
  exact Qj.trans rfl
theorem RowsX.mv{κ:KX}{H:Hp}{ds:List Addr}{R:List (List κ.F)}(h:RowsX κ H ds R){q a:Nat}(qa:q<=a)(ha:a<R.length):RowsX κ H (mvT ds q a) (mvT R q a):=by
  have l:=h.1
  refine ⟨by rw[ZgN qa ⋯,ZgN qa ha,l],λi x f hx hf=>?_⟩
  rw[Zc7 qa ⋯] at hx
  rw[Zc7 qa ha] at hf
  split at hx
  · rename_i c; rw[if_pos c] at hf; exact h.2 i x f hx hf
  · rename_i c; rw[if_neg c] at hf
    split at hx
    · rename_i c2; rw[if_pos c2] at hf; exact h.2 a x f hx hf
    · rename_i c2; rw[if_neg c2] at hf
      split at hx
      · rename_i c3; rw[if_pos c3] at hf; exact h.2 _ x f hx hf
      · rename_i c3; rw[if_neg c3] at hf; exact h.2 i x f hx hf
theorem Zln{α:Type}{R:List α}{q a:Nat}{x:α}(h:x∈mvT R q a):x∈R:=by
  unfold mvT at h
  split at h
  · rename_i f hf
    rcases Qf.mp h with z | z
    · exact List.mem_of_mem_eraseIdx (Uo z)
    · rcases Q8.mp z with z | z
      · rw[z]; exact Q9 hf
      · exact List.mem_of_mem_eraseIdx (List.mem_of_mem_drop z)
  · exact h
section
variable{P:Program}{w:World}{K:PySem.W.Frag}{mg:Str->Option Value}{base:Heap}
theorem sc_l_rank:FnScope ["_law_prime_here", "_law_table_here", "_law_rows", "_law_many", "_law_j", "_law_at", "_law_top", "_law_less", "_law_i", "_law_by", "_law_left", "_law_right"] ["_law_prime_here", "_law_table_here"] (Zag Zgh):=‹2›
theorem Zik(h:Here K mg "_law_rank" Zgh) (T:Nm mg) (Tz:mg "zip" = none) (h_l_times:Has P w K mg base "_law_times" 3 ["_law_prime_here", "_law_one", "_law_other"] (Zb8 λ_ x y=>x*y)) (h_l_plus:Has P w K mg base "_law_plus" 3 ["_law_prime_here", "_law_one", "_law_other"] (Zb8 λ_ x y=>x+y)) (h_l_made:Has P w K mg base "_law_made" 3 ["_law_prime_here", "_law_number_here"] ZbQ):Has P w K mg base "_law_rank" 4 ["_law_prime_here", "_law_table_here"] ZdJ:=by
  refine h.has (λf fd F=>F.binds λ_ _ _ _ _ _ us hl=>by obtain ⟨_,_,rfl⟩:=ZdM hl; exact rfl) λf fd F=>F.ok sc_l_rank (λvs H Q E h=>?_) (λcdv A outer s H vs Q E hr h=>?_)
  · obtain ⟨_,_,_,_,_,_,rfl,_⟩:=h
    rfl
  obtain ⟨κ,a,rs,A,n,M0,rfl,hT,rA,lA,wA,n1,n7,n3,qA,lM0,k⟩:=h
  have nd:=sc_l_rank.nd
  refine ⟨_,(Zab (ZbO (i:=2) ["_law_row"] [] nd rfl rfl rfl (ZaI (pv 1)) (by exact λ_ _ _ _=>(Zau (i:=0) (show (["_law_row"]:List Str).Nodup by decide +kernel) rfl (Or.inl rfl))) (by exact λ_ _ _ _=>(ZbB (ZbL K rfl) (by rfl) T.list boot_list (Zaa (pv 0) Zac))) trivial)
    (Zab (Zak (i:=3) nd rfl (Or.inl rfl) Zad)
    (Zab (Zbf PassesOwn.never rfl (ZaN (by rfl) T.range (Zaa (Zam Zai (by rfl) T.len boot_len (Zaa (Zar Zav (pv 2) Zad (λ_ _=>rfl)) Zac)) Zac)) (Zau (i:=4) nd rfl (Or.inl rfl)) (Zab (Zak (i:=5) nd rfl (Or.inl rfl) (pv 3))
      (Zab (Zb3 PassesOwn.never (ZeS (Zaq Zca (pv 5) (Zam Zai (by rfl) T.len boot_len (Zaa (pv 2) Zac)) (Zap _)) (Zdu (Zaq (ZmD hr) (Zar Zav (Zar Zav (pv 2) (pv 5) (λ_ _=>rfl)) (pv 4) (λ_ _=>rfl)) (Zao h_l_made hr (by rfl) (Zaa (pv 0) (Zaa Zad Zac))) (Zap _)))).pt (Zae (Zak (i:=5) nd rfl (Or.inl rfl) (Zal Za6 (pv 5) Zad))))
      (Zae (ZaC (Zaq Zca (pv 5) (Zam Zai (by rfl) T.len boot_len (Zaa (pv 2) Zac)) (Zap _)) (Zab (Zak (i:=6) nd rfl (Or.inl rfl) (Zf3 PySem.F.plainAttrs_list PySem.F.slot_list_pop PySem.F.type_list_pop ZlE (pv 2) (Zaa (pv 5) Zac)))
        (Zab (ZaL (Zf3 PySem.F.plainAttrs_list PySem.F.slot_list_insert PySem.F.type_list_insert Zkh (pv 2) (Zaa (pv 3) (Zaa (pv 6) Zac))))
        (Zab (Zak (i:=7) nd rfl (Or.inr rfl) (Zao h_l_times hr (by rfl) (Zaa (pv 0) (Zaa (Zar Zav (pv 6) (pv 4) (λ_ _=>rfl)) (Zaa (Zao h_l_made hr (by rfl) (Zaa (pv 0) (Zaa (Zf0 ZdN Zad) Zac))) Zac)))))
        (Zab (Zbf PassesOwn.never rfl (ZgT (by rfl) T.range (Zaa (Zal Za6 (pv 3) Zad) (Zaa (Zam Zai (by rfl) T.len boot_len (Zaa (pv 2) Zac)) Zac))) (Zau (i:=8) nd rfl (Or.inl rfl)) (Zab (Zak (i:=9) nd rfl (Or.inr rfl) (Zar Zav (Zar Zav (pv 2) (pv 8) (λ_ _=>rfl)) (pv 4) (λ_ _=>rfl)))
          (Zab (ZbO (i:=10) ["_law_x"] [(0, "_law_prime_here"),(7, "_law_less")] nd rfl rfl rfl (ZaI (Zar Zav (pv 2) (pv 8) (λ_ _=>rfl))) (by exact λ_ _ _ _=>(Zau (i:=0) (show (["_law_x", "_law_prime_here", "_law_less"]:List Str).Nodup by decide +kernel) rfl (Or.inl rfl))) (by exact λ_ _ _ _=>(Zao h_l_times hr (by rfl) (Zaa (pv 1) (Zaa (pv 2) (Zaa (pv 0) Zac))))) ⟨⟨rfl,rfl,Or.inl rfl⟩,⟨⟨rfl,rfl,Or.inl rfl⟩,trivial⟩⟩)
          (Zab (ZbO (i:=11) ["_law_x"] [(0, "_law_prime_here"),(9, "_law_by")] nd rfl rfl rfl (ZaI (pv 6)) (by exact λ_ _ _ _=>(Zau (i:=0) (show (["_law_x", "_law_prime_here", "_law_by"]:List Str).Nodup by decide +kernel) rfl (Or.inl rfl))) (by exact λ_ _ _ _=>(Zao h_l_times hr (by rfl) (Zaa (pv 1) (Zaa (pv 2) (Zaa (pv 0) Zac))))) ⟨⟨rfl,rfl,Or.inl rfl⟩,⟨⟨rfl,rfl,Or.inl rfl⟩,trivial⟩⟩)
          (Zae (ZfP (Za2 ["_law_x", "_law_y"] [(0, "_law_prime_here")] rfl (Zha (by rfl) Tz (Zaa (pv 10) (Zaa (pv 11) Zac))) (by exact λ_ _ _ _=>(ZhK (n:=2) K rfl rfl (Zby (Zau (i:=0) (show (["_law_x", "_law_y", "_law_prime_here"]:List Str).Nodup by decide +kernel) rfl (Or.inl rfl)) (Zby (Zau (i:=1) (show (["_law_x", "_law_y", "_law_prime_here"]:List Str).Nodup by decide +kernel) rfl (Or.inl rfl)) ZeT)))) (by exact λ_ _ _ _=>(Zao h_l_plus hr (by rfl) (Zaa (pv 2) (Zaa (pv 0) (Zaa (pv 1) Zac))))) ⟨⟨rfl,rfl,Or.inl rfl⟩,trivial⟩) (ZfO (pv 2) (pv 8) Zdd)))))))
        (Zae (Zak (i:=3) nd rfl (Or.inl rfl) (Zal Za6 (pv 3) Zad))))))) Zat)))))
    (Zae (Zaj (pv 3)))))),?_⟩
  have lr:=rA.1
  have z0:∀i,i<n->RowZ κ 0 (A.getD i []):=λi hi=>⟨60,M0,∅,∅,lM0,λx hx=>qA.getD i x hx⟩
  refine ⟨_,rfl,a,rfl,⟨_,SqL.of hT⟩,?_⟩
  refine ZaG (K:=K) (a:=a) (xs:=rs.map V.ref) (λi ys H2=>∃cs:List Addr,ys=cs.map V.ref/\Same H H2/\RowsX κ H2 cs (A.take i)) (by rw[Q1]; omega) ⟨[],rfl,Same.refl H,by rw[W9]; exact .nil⟩ (λi ys H2 _ ⟨as,_,S,_⟩=>SqL.of (S _ _ hT)) ?_ ?_
  · rintro i x ys H2 hx hl ⟨cs,rfl,S,ra⟩
    obtain ⟨b,hb,rfl⟩:=Zax hx
    obtain ⟨f,hf⟩:=Zaw hb lr
    obtain ⟨xs,hxs,fl⟩:=rA.2 i b f hb hf
    refine ⟨_,rfl,b,xs,rfl,.inl (SqL.of (S _ _ hxs)),λl nl=>?_⟩
    have Sl:=Zah nl (.lst xs)
    refine ⟨cs++[l],by rw[Qj]; rfl,S.trans Sl,?_⟩
    rw[Qm,hf]
    exact (ra.same Sl).snoc Zaf (fl.mono λ_ _ n=>n.same (S.trans Sl))
  rintro ys H1 hl ⟨cs,rfl,S1,rc⟩ rl nrl1
  have nrl:H rl=none:=S1.free nrl1
  have nin:=rc.notin nrl1
  rw[Q1,lr,W6] at rc
  have Srl:=Zah nrl1 (.lst (cs.map V.ref))
  have qrl:=Zaf (H:=H1) (a:=rl) (o:=.lst (cs.map V.ref))
  generalize upd H1 rl (.lst (cs.map V.ref))=H2 at *
  have S2:=S1.trans Srl
  have rc2:=rc.same Srl
  clear S1 Srl nrl1 rc hl
  obtain ⟨a0,x0,g0,hx0,al0⟩:=rc2.get (i:=0) ⋯
  have lx0:x0.length=n:=by rw[al0.1]; exact wA _ (Qe _)
  refine ⟨_,rfl,rl,_,0,_,rfl,rfl,SqL.of qrl,Zbq (i:=0) g0,a0,_,rfl,.inl (SqL.of hx0),_,rfl,?_⟩
  rw[lx0]
  refine ⟨⋯,⋯,?_⟩
  rw[Q7]
  refine Zba (lo:=0) (n:=n) (λj σ H3=>∃(z4 z5 z6 z7 z8 z9 z10 z11:Option V) (ds:List Addr) (R:List (List κ.F)) (ls:List Nat) (ts:List (Tn κ)),σ=[some (.int κ.P),some (.ref a),some (.ref rl),some (.int (ls.length:Int)),z4,z5,z6,z7,z8,z9,z10,z11]/\Same H H3/\H3 rl=some (.lst (ds.map V.ref))/\rl∉ds/\RowsX κ H3 ds R/\R.length=n/\Wid n R/\Wek R n j ls/\(∀t∈ts,t.ok n)/\ZaE ts A=R/\∀i,i<n->RowZ κ ls.length (R.getD i [])) ⟨_,_,_,_,_,_,_,_,cs,A,[],[],rfl,S2,qrl,nin,rc2,lA,wA,ZnT,(λt ht=>nomatch ht),rfl,z0⟩ ?_ ?_
  · rintro j σ H3 hj ⟨z4,z5,z6,z7,z8,z9,z10,z11,ds,R,ls,ts,rfl,S3,hR,nid,rx,lR,wR,wk,okT,eT,rz⟩
    have ld:=rx.1
    have lq:=wk.le
    refine ⟨_,rfl,?_⟩
    refine ⟨λmm σ H4=>∃t:Nat,mm=n-t/\σ=[some (.int κ.P),some (.ref a),some (.ref rl),some (.int (ls.length:Int)),some (.int (0+(j:Int))),some (.int (t:Int)),z6,z7,z8,z9,z10,z11]/\Same H3 H4/\ls.length<=t/\t<=n/\∀i,ls.length<=i->i<t->ent R i j=0,⟨_,ls.length,rfl,rfl,Same.refl _,Q4 _,lq,λi a b=>by omega⟩,?_⟩
    rintro mm σ H4 ⟨t,rfl,rfl,S34,qt,tn,zs⟩
    have hR4:=S34 _ _ hR
    refine ⟨_,rfl,_,rfl,rl,_,rfl,.inl (SqL.of hR4),_,_,rfl,rfl,_,rfl,?_⟩
    rw[Q1,ld,lR]
    refine Za3 (λz=>?_) (λz=>?_)
    case refine_2 =>
      have et:t=n:=by have:¬(t:Int)<(n:Int):=z; omega
      refine ZeF ?_
      refine ⟨_,rfl,_,rfl,rl,_,rfl,.inl (SqL.of hR4),_,_,rfl,rfl,_,rfl,?_⟩
      rw[Q1,ld,lR]
      refine Zb6 (show ¬(t:Int)<(n:Int) by omega) ?_
      exact ⟨_,_,_,_,_,_,_,_,ds,R,ls,ts,rfl,S3.trans S34,hR4,nid,rx.same S34,lR,wR,wk.skip (λi a b=>zs i a ⋯),okT,eT,rz⟩
    have tn':t<n:=by have:(t:Int)<(n:Int):=z; omega
    obtain ⟨b1,ys1,v,e1,e2,e3,e4⟩:=rx.ent wR (i:=t) (j:=j) ⋯ hj
    refine ⟨_,rfl,_,rfl,rl,_,_,_,rfl,rfl,SqL.of hR4,Zbq e1,_,rfl,b1,_,_,_,rfl,rfl,SqL.of (S34 _ _ e2),(by rw[Qr]; exact ZbE e3),_,rfl,κ,0,0,rfl,Zkx,λH5 v0 S5 n0=>?_⟩
    obtain ⟨bb,eb,be⟩:=ZoA ((e4.same S34).same S5) n0
    have S35:=S34.trans S5
    refine ⟨bb,eb,_,rfl,?_⟩
    refine ZnK (λzz=>?_) (λzz=>?_)
    · refine ⟨_,λ_ _ h=>h,?_⟩
      refine ⟨_,rfl,_,_,rfl,rfl,?_⟩
      exact ⟨_,(by show n-(t+1)<n-t; omega),t+1,rfl,rfl,S35,⋯,⋯,λi a b=>by
        by_cases e:i=t
        · rw[e]; exact be.mp zz
        · exact zs i a ⋯⟩
    have pv0:ent R t j≠0:=λq=>by
      have:=be.mpr q
      rw[this] at zz
      exact absurd zz ∅
    have hR5:=S35 _ _ hR
    have S05:=S3.trans S35
    refine ⟨_,rfl,_,rfl,rl,_,rfl,.inl (SqL.of hR5),_,_,rfl,rfl,_,rfl,?_⟩
    rw[Q1,ld,lR]
    refine Zbv (show (t:Int)<(n:Int) by omega) ?_
    have rx':=rx.same S35
    clear S34 S5 hR4 n0 eb be
    generalize H5=H4 at *
    refine ⟨_,rfl,.inl ⟨rfl,_,SqL.of hR5⟩,_,rfl,rl,_,_,t,_,rfl,rfl,hR5,⋯,⋯,?_,(by rw[Qg,e1]; rfl),?_⟩
    · have c2:((t:Nat):Int)<((ds.map V.ref).length:Int):=by rw[Q1]; omega
      have c0:¬((t:Nat):Int)<0:=by omega
      unfold seqIndex?
      simp[c0]
      rw[Q1] at c2
      omega
    have O4:Off [rl] H4 (upd H4 rl (.lst ((ds.map V.ref).eraseIdx t))):=Za4 (Same.refl H4)
    have q4:=Zaf (H:=H4) (a:=rl) (o:=.lst ((ds.map V.ref).eraseIdx t))
    have rx4:=rx'.off nid hR5 O4
    have S4:Same H (upd H4 rl (.lst ((ds.map V.ref).eraseIdx t))):=Off.same O4 S05 (λz hz=>by rw[Q6.mp hz]; exact nrl)
    generalize upd H4 rl (.lst ((ds.map V.ref).eraseIdx t))=H5 at *
    have le5:((ds.map V.ref).eraseIdx t).length=n-1:=by rw[List.length_eraseIdx,Q1,if_pos ⋯]; omega
    refine ⟨_,rfl,.inl ⟨rfl,_,SqL.of q4⟩,_,rfl,_,rfl,rl,_,_,ls.length,rfl,rfl,q4,⋯,⋯,?_⟩
    have em:((ds.map V.ref).eraseIdx t).take ls.length++V.ref b1::((ds.map V.ref).eraseIdx t).drop ls.length=(mvT ds ls.length t).map V.ref:=(Zn1 V.ref ⋯ e1).symm
    rw[em]
    have O5:Off [rl] H5 (upd H5 rl (.lst ((mvT ds ls.length t).map V.ref))):=Za4 (Same.refl H5)
    have q5:=Zaf (H:=H5) (a:=rl) (o:=.lst ((mvT ds ls.length t).map V.ref))
    have rx5:=(rx4.off nid q4 O5).mv qt ⋯
    have S5:Same H (upd H5 rl (.lst ((mvT ds ls.length t).map V.ref))):=Off.same O5 S4 (λz hz=>by rw[Q6.mp hz]; exact nrl)
    have ni5:rl∉mvT ds ls.length t:=λz=>nid (Zln z)
    generalize upd H5 rl (.lst ((mvT ds ls.length t).map V.ref))=H6 at *
    obtain ⟨us,oku,eu⟩:=Zie (q:=ls.length) (d:=t-ls.length) (R:=R) ⋯
    rw[show ls.length+(t-ls.length)=t by omega] at eu
    have lM:=ZgN (R:=R) qt ⋯
    have wM:=ZnU (R:=R) qt ⋯ wR
    have tq:∀c,ent (mvT R ls.length t) ls.length c=ent R t c:=λc=>by
      unfold ent
      rw[show (mvT R ls.length t).getD ls.length []=((mvT R ls.length t)[ls.length]?).getD [] from Q3,Zc7 qt ⋯,if_neg ⋯,if_pos rfl,Q3 (l:=R) (a:=[])]
    have zM:∀i,i<n->RowZ κ ls.length ((mvT R ls.length t).getD i []):=λi hi=>by
      have hm:(mvT R ls.length t).getD i []∈mvT R ls.length t:=by
        rw[Q3,Q2 ⋯]; exact Qe _
      obtain ⟨i',hi',e⟩:=Wf (Zln hm)
      have:=rz i' ⋯
      rw[Q3,Q2 hi'] at this
      rw[<-e]; exact this
    have gm:(mvT ds ls.length t)[ls.length]?=some b1:=by rw[Zc7 qt ⋯,if_neg ⋯,if_pos rfl]; exact e1
    have eT1:ZaE (ts++us) A=mvT R ls.length t:=by rw[Zbd,eT]; exact eu
    have ok1:∀t'∈ts++us,t'.ok n:=λt' h'=>by
      rcases Qf.mp h' with z | z
      · exact okT t' z
      · rw[<-lR]; exact oku t' z
    have lmd:(mvT ds ls.length t).length=n:=by rw[ZgN qt ⋯]; omega
    generalize hM:mvT R ls.length t=M at *
    generalize mvT ds ls.length t=es0 at *
    have q2:κ = .q->ls.length<=2:=λe=>by have:=n3 e; omega
    obtain ⟨b1',ysq,vq,m1,m2,m3,m4⟩:=rx5.ent wM (i:=ls.length) (j:=j) ⋯ hj
    rw[gm] at m1
    cases m1
    have hmq:ent M ls.length j∈M.getD ls.length []:=Zgy wM ⋯ hj
    have bq:=(zM ls.length ⋯).b1 q2 _ hmq
    refine ⟨_,rfl,_,rfl,_,rfl,b1,_,_,_,rfl,rfl,SqL.of m2,(by rw[Qr]; exact ZbE m3),_,rfl,_,rfl,κ,-1,0-1,rfl,Zla,λH7 vm S7 nm=>?_⟩
    refine ⟨κ,vq,vm,ent M ls.length j,0-1,rfl,m4.same S7,nm,bq,(Zc9 (D:=1) (M:=1) (QN.neg (ZiP (κ:=κ))) ∅ (Q5 (show 1<2^1 by decide) (Qa ∅ ∅)) (Q5 (show 1<2^1 by decide) (Qa ∅ ∅))),λH8 vl S8 nl=>?_⟩
    have S68:=S7.trans S8
    have q8:=S68 _ _ q5
    have rx8:=rx5.same S68
    have S08:=S5.trans S68
    generalize H8=H6' at *
    refine ⟨_,rfl,_,_,rfl,rfl,_,rfl,rl,_,rfl,.inl (SqL.of q8),_,_,rfl,?_,?_⟩
    · rw[Q1,lmd]
      exact ⟨⋯,⋯,⋯,⋯⟩
    rw[Q1,lmd]
    refine Zba (lo:=(ls.length:Int)+1) (n:=((n:Int)-((ls.length:Int)+1)).toNat) (λr σ H7=>∃(z8 z9 z10 z11:Option V) (es:List Addr) (R':List (List κ.F)) (vs:List (Tn κ)),σ=[some (.int κ.P),some (.ref a),some (.ref rl),some (.int (ls.length:Int)),some (.int (0+(j:Int))),some (.int (t:Int)),some (.ref b1),some vl,z8,z9,z10,z11]/\NR κ H7 vl (ent M ls.length j*(0-1))/\Same H H7/\H7 rl=some (.lst (es.map V.ref))/\rl∉es/\es[ls.length]?=some b1/\RowsX κ H7 es R'/\R'.length=n/\Wid n R'/\(∀t∈vs,t.ok n)/\ZaE vs A=R'/\(∀i c,i<n->c<n->ent R' i c=if ls.length<i/\i<ls.length+1+r then ent M ls.length j*(0-1)*ent M i c+ent M i j*ent M ls.length c else ent M i c)/\∀i,i<n->RowZ κ (if ls.length<i/\i<ls.length+1+r then ls.length+1 else ls.length) (R'.getD i [])) ⟨_,_,_,_,es0,M,ts++us,rfl,nl,S08,q8,ni5,gm,rx8,⋯,wM,ok1,eT1,(λi c hi hc=>by rw[if_neg ⋯]),λi hi=>by rw[if_neg ⋯]; exact zM i hi⟩ ?_ ?_
    · rintro r σ H7 hr7 ⟨z8',z9',z10',z11',es,R',vs,rfl,nl7,S7,q7,ni7,g7,rx7,l7,w7,ok7,eT7,en7,rz7⟩
      have le7:=rx7.1
      obtain ⟨i,ei⟩:∃i,i=ls.length+1+r:=⟨_,rfl⟩
      have hi:i<n:=by omega
      have ej:((ls.length:Int)+1+(r:Int))=((i:Nat):Int):=by omega
      obtain ⟨c1,xs1,v1,f1,f2,f3,f4⟩:=rx7.ent w7 (i:=i) (j:=j) ⋯ hj
      obtain ⟨gi,hgi⟩:∃gi,R'[i]?=some gi:=⟨R'[i]'⋯,Q2 ⋯⟩
      obtain ⟨gq,hgq⟩:∃gq,R'[ls.length]?=some gq:=⟨R'[ls.length]'⋯,Q2 ⋯⟩
      obtain ⟨xs1',hx1',al1⟩:=rx7.2 i c1 gi f1 hgi
      rw[f2] at hx1'
      cases hx1'
      obtain ⟨xs2,h2',al2⟩:=rx7.2 ls.length b1 gq g7 hgq
      have lgi:=w7 gi (Q9 hgi)
      have lgq:=w7 gq (Q9 hgq)
      have lx1:=al1.1
      have lx2:=al2.1
      have eqj:ent R' ls.length j=ent M ls.length j:=by rw[en7 _ _ ⋯ hj,if_neg ⋯]
      have gdi:R'.getD i []=gi:=ZaD hgi
      have gdq:R'.getD ls.length []=gq:=ZaD hgq
      have zi:=rz7 i hi
      rw[if_neg ⋯,gdi] at zi
      have zq:=rz7 ls.length ⋯
      rw[if_neg ⋯,gdq] at zq
      have ha:ent R' ls.length j∈gq:=by rw[<-gdq]; exact Zgy w7 ⋯ hj
      have hb:ent R' i j∈gi:=by rw[<-gdi]; exact Zgy w7 ⋯ hj
      have q1:κ = .q->ls.length<=1:=λe=>by have:=n3 e; omega
      obtain ⟨zst,bl,bxl,byr⟩:=RowZ.step (j:=0) zi zq q1 ha hb
      have b1i:=zi.b1 (λe=>by have:=q1 e; omega)
      have b1q:=zq.b1 (λe=>by have:=q1 e; omega)
      rw[<-eqj] at nl7
      refine ⟨_,rfl,_,rfl,rl,_,_,_,rfl,rfl,SqL.of q7,(by rw[ej]; exact Zbq f1),_,rfl,c1,_,_,_,rfl,rfl,SqL.of f2,(by rw[Qr]; exact ZbE f3),?_⟩
      refine ⟨_,rfl,_,rfl,rl,_,_,_,rfl,rfl,SqL.of q7,(by rw[ej]; exact Zbq f1),c1,rfl,⟨_,SqL.of f2⟩,?_⟩
      refine ZaG (K:=K) (a:=c1) (xs:=xs1) (λq zs H8=>Same H7 H8/\AllG (NR κ H8) zs ((gi.map λx=>ent R' ls.length j*(0-1)*x).take q)) ⋯ ⟨Same.refl H7,by rw[W9]; exact .nil⟩ (λq zs H8 _ c=>SqL.of (c.1 _ _ f2)) ?_ ?_
      · rintro q u zs H8 hu _ ⟨S8,az⟩
        obtain ⟨x,hx,nx⟩:=al1.get hu
        refine ⟨_,rfl,_,rfl,_,rfl,κ,vl,u,_,x,rfl,nl7.same S8,nx.same S8,bl,b1i x (Q9 hx),λH9 w9 S9 n9=>⟨S8.trans S9,?_⟩⟩
        rw[Qm,Qg,hx]
        exact (az.mono λ_ _ n=>n.same S9).append (.one n9)
      rintro zs1 H8 _ ⟨S8,az1⟩ La nLa
      rw[Ws (by rw[Q1]; omega)] at az1
      have SL:=Zah nLa (.lst zs1)
      have qL:=Zaf (H:=H8) (a:=La) (o:=.lst zs1)
      generalize upd H8 La (.lst zs1)=H9 at *
      have S79:=S8.trans SL
      refine ⟨_,rfl,b1,rfl,⟨_,SqL.of (S79 _ _ h2')⟩,?_⟩
      refine ZaG (K:=K) (a:=b1) (xs:=xs2) (λq zs H10=>Same H9 H10/\AllG (NR κ H10) zs ((gq.map λy=>ent R' i j*y).take q)) ⋯ ⟨Same.refl H9,by rw[W9]; exact .nil⟩ (λq zs H10 _ c=>SqL.of ((S79.trans c.1) _ _ h2')) ?_ ?_
      · rintro q u zs H10 hu _ ⟨S10,az⟩
        obtain ⟨y,hy,ny⟩:=al2.get hu
        have S710:=S79.trans S10
        refine ⟨_,rfl,_,rfl,_,rfl,κ,v1,u,_,y,rfl,f4.same S710,ny.same S710,b1i _ hb,b1q y (Q9 hy),λH11 w11 S11 n11=>⟨S10.trans S11,?_⟩⟩
        rw[Qm,Qg,hy]
        exact (az.mono λ_ _ n=>n.same S11).append (.one n11)
      rintro zs2 H10 _ ⟨S10,az2⟩ Ra nRa
      rw[Ws (by rw[Q1]; omega)] at az2
      have SR:=Zah nRa (.lst zs2)
      have qR:=Zaf (H:=H10) (a:=Ra) (o:=.lst zs2)
      generalize upd H10 Ra (.lst zs2)=H11 at *
      have S911:=S10.trans SR
      have S711:=S79.trans S911
      have qL11:=S911 _ _ qL
      have az1':=az1.mono λ_ _ n=>n.same (SL.trans S911)
      have az2':=az2.mono λ_ _ n=>n.same SR
      have lz1:=az1.1
      have lz2:=az2.1
      rw[Q1] at lz1 lz2
      refine ⟨_,rfl,_,rfl,La,Ra,rfl,⟨_,SqL.of qL11⟩,⟨_,SqL.of qR⟩,?_⟩
      refine Ze6 (K:=K) (a:=La) (b:=Ra) (xs:=zs1) (ys:=zs2) (λq zs H12=>Same H11 H12/\AllG (NR κ H12) zs ((List.zipWith (λx y=>ent R' ls.length j*(0-1)*x+ent R' i j*y) gi gq).take q)) ⋯ ⟨Same.refl H11,by rw[W9]; exact .nil⟩ (λq zs H12 c=>⟨SqL.of (c.1 _ _ qL11),SqL.of (c.1 _ _ qR)⟩) ?_ ?_
      · rintro q u v Tp zs H12 hu hv _ nT ⟨S12,az⟩
        obtain ⟨x',hx',nx⟩:=az1'.get hu
        obtain ⟨y',hy',ny⟩:=az2'.get hv
        rw[Qg] at hx' hy'
        obtain ⟨x,hx,rfl⟩:=Option.map_eq_some_iff.mp hx'
        obtain ⟨y,hy,rfl⟩:=Option.map_eq_some_iff.mp hy'
        have ST:=Zah nT (.tup [u,v])
        generalize upd H12 Tp (.tup [u,v])=H13 at *
        have S1113:=S12.trans ST
        refine ⟨_,rfl,_,rfl,_,rfl,κ,u,v,_,_,rfl,nx.same S1113,ny.same S1113,bxl x (Q9 hx),byr y (Q9 hy),λH14 w14 S14 n14=>⟨S1113.trans S14,?_⟩⟩
        rw[Qm,List.getElem?_zipWith,hx,hy]
        exact (az.mono λ_ _ n=>n.same (ST.trans S14)).append (.one n14)
      rintro zs H12 _ ⟨S12,az⟩ D nD8
      have lz:(List.zipWith (λx y=>ent R' ls.length j*(0-1)*x+ent R' i j*y) gi gq).length=n:=by rw[List.length_zipWith]; omega
      rw[show min zs1.length zs2.length=n by omega,Ws ⋯] at az
      have S712:=S711.trans S12
      have nD7:=S712.free nD8
      have nDl:D≠rl:=λz=>by rw[z,q7] at nD7; cases nD7
      have SD:=Zah nD8 (.lst zs)
      have qD:=Zaf (H:=H12) (a:=D) (o:=.lst zs)
      generalize upd H12 D (.lst zs)=H13 at *
      have S713:=S712.trans SD
      have q9:=S713 _ _ q7
      refine ⟨_,rfl,_,rfl,rl,es.map V.ref,_,i,rfl,rfl,q9,?_,?_⟩
      · show ixN (es.map V.ref).length ((ls.length:Int)+1+(r:Int))=some i
        rw[ej]
        have:=Zei (i:=((i:Nat):Int)) (n:=(es.map V.ref).length) (Int.natCast_nonneg _) (by rw[Q1]; omega)
        rw[Q7] at this
        exact this
      have O10:Off [rl] H13 (upd H13 rl (.lst ((es.map V.ref).set i (.ref D)))):=Za4 (Same.refl H13)
      have eR:elR R' ls.length j i=List.zipWith (λx y=>ent R' ls.length j*(0-1)*x+ent R' i j*y) gi gq:=by
        unfold elR
        rw[gdi,gdq]
      have nzq:ent R' ls.length j≠0:=by rw[eqj,tq]; exact pv0
      obtain ⟨ws,okw,ew⟩:=ZnV (j:=j) w7 (show ls.length<R'.length by omega) (show i<R'.length by omega) ⋯ nzq
      refine ⟨_,_,_,_,es.set i D,R'.set i (elR R' ls.length j i),vs++ws,rfl,(by rw[<-eqj]; exact (nl7.same S713).off q9 O10),Off.same O10 (S7.trans S713) (λz hz=>by rw[Q6.mp hz]; exact nrl),by rw[Zaf,We],λz=>?_,?_,?_,by rw[W7]; exact l7,?_,λt' h'=>?_,by rw[Zbd,eT7]; exact ew,λi' c hi' hc=>?_,λi' hi'=>?_⟩
      · rcases W8 z with q | q
        · exact ni7 q
        · exact nDl q.symm
      · rw[List.getElem?_set_ne ⋯]; exact g7
      · refine ((rx7.same S713).off ni7 q9 O10).set i (O10 _ _ (λz=>nDl (Q6.mp z)) qD) ?_
        rw[eR]
        exact az.mono λ_ _ n=>(n.same SD).off q9 O10
      · intro f' hf'
        rcases W8 hf' with q | q
        · exact w7 f' q
        · rw[q]; exact ZnW w7 ⋯ ⋯
      · rcases Qf.mp h' with z | z
        · exact ok7 t' z
        · rw[<-l7]; exact okw t' z
      · by_cases e:i'=i
        · rw[e,show ent (R'.set i (elR R' ls.length j i)) i c=(elR R' ls.length j i).getD c 0 by unfold ent; rw[ZaQ ⋯],ZnX w7 ⋯ ⋯ hc,if_pos ⋯,en7 i c hi hc,if_neg ⋯,en7 i j hi hj,if_neg ⋯,en7 ls.length c ⋯ hc,if_neg ⋯,eqj]
        · rw[show ent (R'.set i (elR R' ls.length j i)) i' c=ent R' i' c by unfold ent; rw[Zbw (Ne.symm e)],en7 i' c hi' hc]
          by_cases q:ls.length<i'/\i'<ls.length+1+r
          · rw[if_pos q,if_pos ⋯]
          · rw[if_neg q,if_neg ⋯]
      · by_cases e:i'=i
        · rw[e,ZaQ ⋯,if_pos ⋯,eR]
          exact zst
        · rw[Zbw (Ne.symm e)]
          have:=rz7 i' hi'
          by_cases q:ls.length<i'/\i'<ls.length+1+r
          · rw[if_pos q] at this
            rw[if_pos ⋯]; exact this
          · rw[if_neg q] at this
            rw[if_neg ⋯]; exact this
    · rintro σ H7 ⟨z8',z9',z10',z11',es,R',vs,rfl,nl7,S7,q7,ni7,g7,rx7,l7,w7,ok7,eT7,en7,rz7⟩
      refine ⟨_,rfl,_,_,rfl,rfl,?_⟩
      have stp:Wek R' n (j+1) (ls++[j]):=by
        refine Wek.step (m:=n) wk lR hj qt tn' pv0 (λi hi c hc=>?_) (λi hi hin c hc=>?_)
        · rw[hM,en7 i c ⋯ hc,if_neg ⋯]
        · rw[hM,en7 i c hin hc,if_pos ⋯,tq,tq]
      refine ⟨some (.int (0+(j:Int))),some (.int (t:Int)),some (.ref b1),some vl,z8',z9',z10',z11',es,R',ls++[j],vs,?_,S7,q7,ni7,rx7,l7,w7,stp,ok7,eT7,λi hi=>?_⟩
      · rw[show ((ls++[j]).length:Int)=(ls.length:Int)+1 by rw[Qd]; rfl]
        rfl
      · rw[show (ls++[j]).length=ls.length+1 by rw[Qd]; rfl]
        have:=rz7 i hi
        split at this
        · exact this
        · exact this.up
  · rintro σ H3 ⟨z4,z5,z6,z7,z8,z9,z10,z11,ds,R,ls,ts,rfl,S3,hR,nid,rx,lR,wR,wk,okT,eT,rz⟩
    obtain ⟨us,R',oku,eR,lR',wR',ech⟩:=ZnY lR wR wk
    have back:=Zck (m:=n) (ts:=ts) (R:=A) wA (by rw[lA]; exact okT)
    rw[eT] at back
    refine ⟨_,rfl,k H3 R' (us++ts.reverse.map ZmH) ls S3 (by rw[Zbd,<-eR]; exact back.symm) (λt' h'=>?_) lR' wR' ech⟩
    rcases Qf.mp h' with z | z
    · exact oku t' z
    · obtain ⟨u,hu,rfl⟩:=Qi.mp z
      exact ZkL (okT u (List.mem_reverse.mp hu))
end
end My
namespace My
open PySem L2 PyProof.Rows
inductive Zb1 (vs:List V) (H:Hp) (Q:VK) (zE:XK):Prop
  | mk (κ:KX) (t:Addr) (rs:List Addr) (R:List (List κ.F)) (_:vs=[.int κ.P,.ref t,.int (R.length:Int)]) (_:H t=some (.lst (rs.map V.ref))) (_:RowsX κ H rs R) (_:Wid R.length R) (_:Q (.bl true) H):Zb1 vs H Q zE
structure RzI (K:PySem.W.Frag) (mg:Str->Option Value) (CE C f:Addr) (os:List Addr):Prop where
  c:XIni K mg "NoInverse" C CE f
  u:XUp K mg "FrameError" CE
  na:PySem.W.findIn K (.ref C) "rank" = some none
  e:PySem.W.mroIn K C (.ref CE)=some true
  v:PySem.W.mroIn K C (.type "ValueError")=some true
  o:Zji K C os
inductive Zda (CF CR cF cI:Addr) (vs:List V) (H:Hp) (Q:VK) (zE:XK):Prop
  | mk (κ:KX) (s a:Addr) (rs:List Addr) (A:List (List κ.F)) (m:Nat) (n:Int) (_:vs=[.ref s,.ref a,.int n]) (_:KdX CF CR κ H s) (_:TabR κ H a rs A m) (_:((A.length≠m/\∀H' e,Same H H'->H' e=some (Zj8 e cF none)->Q (.ref e) H')\/(A.length=m/\m<=7/\n<0/\∃(R:List (List κ.F)) (ts0:List (Tn κ)) (ls:List Nat),A=ZaE ts0 R/\R.length=m/\Wid m R/\(∀t∈ts0,t.ok m)/\Ech R m m ls 1/\QT κ m (Zc3 A (([]:List κ.F).map (1 * ·)))/\ls.length<m/\∀H' e d,Same H H'->H' e=some (Zj8 e cI (some d))->H' d=some (.xd [("rank", .int (ls.length:Int))])->Q (.ref e) H'))):Zda CF CR cF cI vs H Q zE
inductive ZcH (cF:Addr) (vs:List V) (H:Hp) (Q:VK) (zE:XK):Prop
  | mk (e:Addr) (_:vs=[.ref e]) (_:H e=some (Zj8 e cF none)) (_:∀H',Same H H'->Q (.bl true) H'):ZcH cF vs H Q zE
inductive ZcI (cI:Addr) (vs:List V) (H:Hp) (Q:VK) (zE:XK):Prop
  | mk (e d:Addr) (r:Int) (_:vs=[.ref e,.int r]) (_:H e=some (Zj8 e cI (some d))) (_:H d=some (.xd [("rank", .int r)])) (_:∀H',Same H H'->Q (.bl true) H'):ZcI cI vs H Q zE
inductive Zdb (vs:List V) (H:Hp) (Q:VK) (zE:XK):Prop
  | mk (κ:KX) (c:Addr) (cs:List Int) (at_:Nat) (_:vs=[.int κ.P,.ref c,.int (at_:Int)]) (_:Ce H c cs) (_:∃hat:at_<cs.length,∀(H':Hp) (t:Addr) (rs:List Addr) (R:List (List κ.F)) (m:Nat),Same H H'->H' t=some (.lst (rs.map V.ref))->RowsX κ H' rs R->R.length=szN κ cs[at_]->Wid m R->1<=m->m<=8->AllR (QN κ ((60:Nat):Int) (2*(60*toN (wdN κ cs[at_])))) R->Q (.ref t) H'):Zdb vs H Q zE
theorem ZgP{i:Nat}{x:V}{σ:L2.St}{H:Hp}{t u:TS}{D:Ends}{rt:VK}{bk ct:L2.St->Hp->Prop}(h:ZoR t u D (σ.set i (some x)) H):ZfZ i x σ H (Ends.nx ⟨ZoR t u D,rt,bk,ct⟩):=h
theorem ZcJ{t u:TS}{D:Ends}{σ:L2.St}{H:Hp}(N:L2.St->Hp->Prop)(h1:∀N':L2.St->Hp->Prop,(∀σ H,N σ H->N' σ H)->t { D with nx:=N' } σ H)(h2:∀σ H,N σ H->u D σ H):ZoR t u D σ H:=h1 _ h2
theorem ZiY{a:Int}{n:Nat}(h:0<n):∃w:Nat,a.fmod (n:Int)=(w:Int)/\w<n:=by
  rw[Qy _ ⋯]
  have a0:=Wd a (show (n:Int)≠0 by omega)
  have a1:=Wt a (show 0<(n:Int) by omega)
  exact ⟨(a%n).toNat,⋯,⋯⟩
end My
namespace My
open PySem L2 PyProof.Rows
section
variable{P:Program}{w:World}{K:PySem.W.Frag}{mg:Str->Option Value}{base:Heap}{CF CR CE cK cN cF cT cI cX cM cR fI:Addr}
theorem sc_l_is_table:FnScope ["_law_prime_here", "_law_found", "_law_rows", "_law_row", "_law_number_here"] ["_law_prime_here", "_law_found", "_law_rows"] (Zag ZcY):=‹2›
theorem ZfF(h:Here K mg "_law_is_table" ZcY) (T:Nm mg) (h_l_number:Has P w K mg base "_law_number" 2 ["_law_prime_here", "_law_thing"] Zc5):Has P w K mg base "_law_is_table" 3 ["_law_prime_here", "_law_found", "_law_rows"] Zb1:=by
  refine h.has (λf fd F=>F.binds λ_ _ _ _ _ _ us hl=>by obtain ⟨_,_,_,rfl⟩:=Zdq hl; exact rfl) λf fd F=>F.ok sc_l_is_table (λvs H Q E h=>?_) (λcdv A outer s H vs Q E hr h=>?_)
  · obtain ⟨_,_,_,_,rfl,_⟩:=h
    rfl
  obtain ⟨κ,a,rs,R,rfl,ha,rx,wd,k⟩:=h
  have nd:=sc_l_is_table.nd
  refine ⟨_,(Zab (ZaC (Zhx (ZbR (Zbo (Zam Zbg (by rfl) T.isinstance boot_isinstance (Zaa (pv 1) (Zaa (Zg4 (by rfl) T.list boot_list) Zac))))) (ZeR (Zaq Zdv (Zam Zai (by rfl) T.len boot_len (Zaa (pv 1) Zac)) (pv 2) (Zap _)))).pt (Zae (Zaj ZcL)) Zat)
    (Zab (Zbf PassesOwn.never rfl (ZaI (pv 1)) (Zau (i:=3) nd rfl (Or.inl rfl)) (Zab (ZaC (Zhx (ZbR (Zbo (Zam Zbg (by rfl) T.isinstance boot_isinstance (Zaa (pv 3) (Zaa (Zg4 (by rfl) T.list boot_list) Zac))))) (ZeR (Zaq Zdv (Zam Zai (by rfl) T.len boot_len (Zaa (pv 3) Zac)) (pv 2) (Zap _)))).pt (Zae (Zaj ZcL)) Zat)
      (Zae (Zbf PassesOwn.never rfl (ZaI (pv 3)) (Zau (i:=4) nd rfl (Or.inl rfl)) (Zae (ZaC (ZbR (Zbo (Zao h_l_number hr (by rfl) (Zaa (pv 0) (Zaa (pv 4) Zac))))) (Zae (Zaj ZcL)) Zat))))))
    (Zae (Zaj ZcL)))),?_⟩
  refine ⟨_,rfl,_,_,_,_,rfl,.of (.lst ha),.ty (ZdO K _),_,rfl,ZeF ?_⟩
  refine ⟨_,rfl,a,_,rfl,.inl (SqL.of ha),_,rfl,rfl,_,rfl,?_⟩
  rw[Q1,rx.1]
  refine ZcO (λz=>absurd rfl z) (λ_=>?_)
  refine ⟨_,rfl,a,rfl,⟨_,SqL.of ha⟩,?_⟩
  refine Zcn (xs:=rs.map V.ref) (λj σ H4=>∃z3 z4:Option V,σ=[some (.int κ.P),some (.ref a),some (.int (R.length:Int)),z3,z4]/\H4=H) ⟨_,_,rfl,rfl⟩ ?_ ?_ ?_
  · rintro j σ H4-⟨z3,z4,rfl,rfl⟩
    exact SqL.of ha
  · rintro j u σ H4 hu ⟨z3,z4,rfl,rfl⟩
    obtain ⟨b,hb,rfl⟩:=Zax hu
    obtain ⟨f,hf⟩:=Zaw hb rx.1
    obtain ⟨xs,hxs,al⟩:=rx.2 j b f hb hf
    have lx:xs.length=R.length:=by rw[al.1]; exact wd f (Q9 hf)
    refine ⟨_,rfl,_,_,_,_,rfl,.of (.lst hxs),.ty (ZdO K _),_,rfl,ZeF ?_⟩
    refine ⟨_,rfl,b,_,rfl,.inl (SqL.of hxs),_,rfl,rfl,_,rfl,?_⟩
    rw[lx]
    refine ZcO (λz=>absurd rfl z) (λ_=>?_)
    refine ⟨_,rfl,b,rfl,⟨_,SqL.of hxs⟩,?_⟩
    refine Zcn (xs:=xs) (λj σ H5=>∃z4:Option V,σ=[some (.int κ.P),some (.ref a),some (.int (R.length:Int)),some (.ref b),z4]/\H5=H4) ⟨_,rfl,rfl⟩ ?_ ?_ ?_
    · rintro i σ H5-⟨z4,rfl,rfl⟩
      exact SqL.of hxs
    · rintro i u σ H5 hu ⟨z4,rfl,rfl⟩
      obtain ⟨x,hx',nx⟩:=al.get hu
      exact ⟨_,rfl,_,rfl,κ,u,x,rfl,nx,_,rfl,ZeF ⟨_,rfl,rfl⟩⟩
    · rintro σ H5 ⟨z4,rfl,rfl⟩
      exact ⟨_,_,rfl,rfl⟩
  · rintro σ H4 ⟨z3,z4,rfl,rfl⟩
    exact k
theorem sc_l_error:FnScope ["_law_kind_here", "_law_table_here", "_law_n", "_law_error_here", "e"] ["_law_kind_here", "_law_table_here", "_law_n"] (Zag Zfh):=‹2›
theorem Zht{sp0:Sp}(h:Here K mg "_law_error" Zfh) (cat:CatC K mg "FrameError" CE) (eF:PySem.W.mroIn K cF (.ref CE)=some true) (eI:PySem.W.mroIn K cI (.ref CE)=some true) (h_power:HasX P w K mg base "power" 11 ["kind", "A", "n"] (ZgM CF CR cF cI sp0)):Has P w K mg base "_law_error" 12 ["_law_kind_here", "_law_table_here", "_law_n"] (Zda CF CR cF cI):=by
  refine h.has (λf fd F=>F.binds λ_ _ _ _ _ _ us hl=>by obtain ⟨_,_,_,rfl⟩:=Zdq hl; exact rfl) λf fd F=>F.ok sc_l_error (λvs H Q E h=>?_) (λcdv A outer s H vs Q E hr h=>?_)
  · obtain ⟨_,_,_,_,_,_,_,rfl,_⟩:=h
    rfl
  obtain ⟨κ,sk,a,rs,A,m,n,rfl,kx,ta,h⟩:=h
  have nd:=sc_l_error.nd
  refine ⟨_,(Zab (Zak (i:=3) nd rfl (Or.inl rfl) Zmu)
    (Zab (Zoq cat nd (i:=4) rfl rfl (by rfl) (by exact λE pn xe hp=>(Zae (ZaL (Zcr h_power hp hr (by rfl) (Zaa (pv 0) (Zaa (pv 1) (Zaa (pv 2) Zac))))))) (by exact λe=>(Zae (Zak (i:=3) nd rfl (Or.inl rfl) (pv 4)))))
    (Zae (Zaj (pv 3))))),?_⟩
  intro pn xe
  rcases h with ⟨bad,k⟩ | ⟨sq,m7,n0,R,ts,ls,eA,lR,wR,ok0,ech,qt,less,k⟩
  · refine ⟨_,rfl,_,rfl,_,rfl,κ,sk,a,rs,A,m,n,rfl,kx,ta,(λ_=>?_),(λz=>absurd z bad)⟩
    refine ⟨cF,rfl,eF,λe he=>?_⟩
    exact ⟨_,rfl,_,rfl,k _ e (Zah he _) Zaf⟩
  · refine ⟨_,rfl,_,rfl,_,rfl,κ,sk,a,rs,A,m,n,rfl,kx,ta,(λz=>absurd sq z),(λ_=>⟨m7,(λz=>by omega),(λ_=>⟨R,ts,ls,eA,lR,wR,ok0,ech,qt,(λ_ H0 d S0 hd=>?_),(λz=>by omega)⟩)⟩)⟩
    refine ⟨cI,rfl,eI,λe he=>?_⟩
    have S1:=Zah he (Zj8 e cI (some d))
    exact ⟨_,rfl,_,rfl,k _ e d (S0.trans S1) Zaf (S1 _ _ hd)⟩
theorem sc_l_no_fit:FnScope ["_law_error_here"] ["_law_error_here"] (Zag Zea):=‹2›
theorem ZgQ(h:Here K mg "_law_no_fit" Zea) (T:Nm mg) (R:Rf K mg CE cK cN cF cT cI cX cM cR) (Z:Rz K mg "NoFit" CE cF [cK,cN,cT,cI,cX,cM,cR]):Has P w K mg base "_law_no_fit" 1 ["_law_error_here"] (ZcH cF):=by
  refine h.has (λf fd F=>F.binds λ_ _ _ _ _ _ us hl=>by obtain ⟨_,rfl⟩:=Zlp hl; exact rfl) λf fd F=>F.ok sc_l_no_fit (λvs H Q E h=>?_) (λcdv A outer s H vs Q E hr h=>?_)
  · obtain ⟨_,rfl,_⟩:=h
    rfl
  obtain ⟨e,rfl,he',k⟩:=h
  have nd:=sc_l_no_fit.nd
  refine ⟨_,(Zab (ZaC (Zbo (Zam Zbg (by rfl) T.isinstance boot_isinstance (Zaa (pv 0) (Zaa (ZaY (Zaa (Za5 (v:=.ref cK) (by rfl) R.k.m rfl) (Zaa (Za5 (v:=.ref cN) (by rfl) R.n.m rfl) (Zaa (Za5 (v:=.ref cT) (by rfl) R.t.m rfl) (Zaa (Za5 (v:=.ref cI) (by rfl) R.i.m rfl) (Zaa (Za5 (v:=.ref cX) (by rfl) R.x.m rfl) (Zaa (Za5 (v:=.ref cM) (by rfl) R.m.m rfl) (Zaa (Za5 (v:=.ref cR) (by rfl) R.r.m rfl) Zac)))))))) Zac)))) (Zae (Zaj ZcL)) Zat)
    (Zae (Zaj (ZbA (Zam Zbg (by rfl) T.isinstance boot_isinstance (Zaa (pv 0) (Zaa (Za5 (v:=.ref cF) (by rfl) R.f.m rfl) Zac))) (Zb2 (Zam Zbg (by rfl) T.isinstance boot_isinstance (Zaa (pv 0) (Zaa (Zg4 (by rfl) R.ve PyProof.Rows.Boot.«ValueError») Zac)))))))),?_⟩
  obtain ⟨oK,oN,oT,oI,oX,oM,oR,_⟩:=Z.o
  have no:∀c∈[cK,cN,cT,cI,cX,cM,cR],PySem.W.kitOne K (.ref cF) (.ref c)=some false:=by
    intro c hc
    simp only[Q8,W4,or_false] at hc
    rcases hc with rfl | rfl | rfl | rfl | rfl | rfl | rfl
    · exact R.k.no oK
    · exact R.n.no oN
    · exact R.t.no oT
    · exact R.i.no oI
    · exact R.x.no oX
    · exact R.m.no oM
    · exact R.r.no oR
  refine ⟨_,rfl,(by show 7<=sizeLine; decide),λtp htp=>?_⟩
  have S2:=Zah htp (.tup [.ref cK,.ref cN,.ref cT,.ref cI,.ref cX,.ref cM,.ref cR])
  have ht:=Zaf (H:=H) (a:=tp) (o:=.tup [.ref cK,.ref cN,.ref cT,.ref cI,.ref cX,.ref cM,.ref cR])
  generalize upd H tp (.tup [.ref cK,.ref cN,.ref cT,.ref cI,.ref cX,.ref cM,.ref cR])=H2 at *
  have hx:TyX K H2 (.ref e) (.ref cF):=.exc (S2 _ _ he') Z.c.cls
  refine ⟨_,_,_,_,rfl,hx,.tup (cs:=[cK,cN,cT,cI,cX,cM,cR]) ht (Zfp no),_,rfl,ZeF ?_⟩
  refine ⟨_,rfl,_,_,_,_,rfl,hx,.ref ZiB,_,rfl,ZfG ?_⟩
  exact ⟨_,rfl,_,_,_,_,rfl,hx,.ty (Zpd K Z.v),k _ S2⟩
theorem sc_l_no_inverse:FnScope ["_law_error_here", "_law_many"] ["_law_error_here", "_law_many"] (Zag Zcf):=‹2›
theorem Zet(h:Here K mg "_law_no_inverse" Zcf) (T:Nm mg) (R:Rf K mg CE cK cN cF cT cI cX cM cR) (Z:RzI K mg CE cI fI [cK,cN,cT,cF,cX,cM,cR]) (h_l_whole:Has P w K mg base "_law_whole" 2 ["_law_found"] Zcy):Has P w K mg base "_law_no_inverse" 3 ["_law_error_here", "_law_many"] (ZcI cI):=by
  refine h.has (λf fd F=>F.binds λ_ _ _ _ _ _ us hl=>by obtain ⟨_,_,rfl⟩:=ZdM hl; exact rfl) λf fd F=>F.ok sc_l_no_inverse (λvs H Q E h=>?_) (λcdv A outer s H vs Q E hr h=>?_)
  · obtain ⟨_,_,_,rfl,_⟩:=h
    rfl
  obtain ⟨e,d,r,rfl,he',hd',k⟩:=h
  have nd:=sc_l_no_inverse.nd
  refine ⟨_,(Zab (ZaC (Zbo (Zam (ZeA Z.c.cls) (by rfl) T.isinstance boot_isinstance (Zaa (pv 0) (Zaa (ZaY (Zaa (Za5 (v:=.ref cK) (by rfl) R.k.m rfl) (Zaa (Za5 (v:=.ref cN) (by rfl) R.n.m rfl) (Zaa (Za5 (v:=.ref cT) (by rfl) R.t.m rfl) (Zaa (Za5 (v:=.ref cF) (by rfl) R.f.m rfl) (Zaa (Za5 (v:=.ref cX) (by rfl) R.x.m rfl) (Zaa (Za5 (v:=.ref cM) (by rfl) R.m.m rfl) (Zaa (Za5 (v:=.ref cR) (by rfl) R.r.m rfl) Zac)))))))) Zac)))) (Zae (Zaj ZcL)) Zat)
    (Zae (Zaj (ZbA (Zam (ZeA Z.c.cls) (by rfl) T.isinstance boot_isinstance (Zaa (pv 0) (Zaa (Za5 (v:=.ref cI) (by rfl) R.i.m rfl) Zac))) (ZbA (Zao h_l_whole hr (by rfl) (Zaa (Zkg Z.c.cls Z.na (pv 0) rfl) Zac)) (Zb2 (ZaM Zbh (Zkg Z.c.cls Z.na (pv 0) rfl) (pv 1) (Zap _)))))))),?_⟩
  obtain ⟨oK,oN,oT,oF,oX,oM,oR,_⟩:=Z.o
  have no:∀c∈[cK,cN,cT,cF,cX,cM,cR],PySem.W.kitOne K (.ref cI) (.ref c)=some false:=by
    intro c hc
    simp only[Q8,W4,or_false] at hc
    rcases hc with rfl | rfl | rfl | rfl | rfl | rfl | rfl
    · exact R.k.no oK
    · exact R.n.no oN
    · exact R.t.no oT
    · exact R.f.no oF
    · exact R.x.no oX
    · exact R.m.no oM
    · exact R.r.no oR
  refine ⟨_,rfl,(by show 7<=sizeLine; decide),λtp htp=>?_⟩
  have S2:=Zah htp (.tup [.ref cK,.ref cN,.ref cT,.ref cF,.ref cX,.ref cM,.ref cR])
  have ht:=Zaf (H:=H) (a:=tp) (o:=.tup [.ref cK,.ref cN,.ref cT,.ref cF,.ref cX,.ref cM,.ref cR])
  generalize upd H tp (.tup [.ref cK,.ref cN,.ref cT,.ref cF,.ref cX,.ref cM,.ref cR])=H2 at *
  have hE:=S2 _ _ he'
  have hD:=S2 _ _ hd'
  refine ⟨e,d,_,_,_,rfl,hE,hD,.tup (cs:=[cK,cN,cT,cF,cX,cM,cR]) ht (Zfp no),_,rfl,ZeF ?_⟩
  refine ⟨_,rfl,e,d,_,_,_,rfl,hE,hD,.ref ZiB,_,rfl,ZfG ?_⟩
  refine ⟨_,rfl,e,d,_,_,rfl,hE,hD,rfl,_,rfl,_,rfl,ZfG ?_⟩
  exact ⟨_,rfl,e,d,_,_,rfl,hE,hD,rfl,_,rfl,rfl,ZkS rfl (k _ S2)⟩
end
end My
namespace My
open PySem L2 PyProof.Rows
section
variable{P:Program}{w:World}{K:PySem.W.Frag}{mg:Str->Option Value}{base:Heap}
theorem sc_l_table:FnScope ["_law_prime_here", "_law_cells", "_law_at", "_law_cell_here", "_law_rows", "_law_columns", "_law_way", "_law_wide", "_law_table_here", "_law_i", "_law_drawn_here", "_law_one", "_law_other", "_law_by"] ["_law_prime_here", "_law_cells", "_law_at"] (Zag Zfg):=‹2›
theorem Zhu(h:Here K mg "_law_table" Zfg) (T:Nm mg) (h_l_size:Has P w K mg base "_law_size" 4 ["_law_prime_here", "_law_cell_here"] ZcF) (h_l_exponent:Has P w K mg base "_law_exponent" 4 ["_law_prime_here", "_law_cell_here"] ZcG) (h_l_cell:Has P w K mg base "_law_cell" 4 ["_law_cells", "_law_k"] ZfC) (h_l_drawn:Has P w K mg base "_law_drawn" 4 ["_law_prime_here", "_law_cell_here", "_law_wide"] Zc8) (h_l_made:Has P w K mg base "_law_made" 4 ["_law_prime_here", "_law_number_here"] ZbQ) (h_l_times:Has P w K mg base "_law_times" 4 ["_law_prime_here", "_law_one", "_law_other"] (Zb8 λ_ x y=>x*y)):Has P w K mg base "_law_table" 5 ["_law_prime_here", "_law_cells", "_law_at"] Zdb:=by
  refine h.has (λf fd F=>F.binds λ_ _ _ _ _ _ us hl=>by obtain ⟨_,_,_,rfl⟩:=Zdq hl; exact rfl) λf fd F=>F.ok sc_l_table (λvs H Q E h=>?_) (λcdv A outer s H vs Q E hr h=>?_)
  · obtain ⟨_,_,_,_,rfl,_⟩:=h
    rfl
  obtain ⟨κ,c,cs,at_,rfl,ce,hat,k⟩:=h
  have nd:=sc_l_table.nd
  refine ⟨_,(Zab (Zak (i:=3) nd rfl (Or.inl rfl) (Zar Zav (pv 1) (pv 2) (λ_ _=>rfl)))
    (Zab (Zak (i:=4) nd rfl (Or.inl rfl) (Zao h_l_size hr (by rfl) (Zaa (pv 0) (Zaa (pv 3) Zac))))
    (Zab (Zak (i:=5) nd rfl (Or.inr rfl) (pv 4))
    (Zab (Zak (i:=6) nd rfl (Or.inl rfl) (Zal Zbp (Zal Zbp (Zal Zdo (pv 3) Zad) Zad) Zad))
    (Zab (ZaC (ZeS (Zaq Zbh (pv 6) Zad (Zap _)) (Zdu (Zaq Zf1 (pv 4) Zad (Zap _)))).pt (Zae (Zak (i:=5) nd rfl (Or.inr rfl) (Zal Zb4 (pv 4) Zad))) Zat)
    (Zab (ZaC (ZeS (Zaq Zbh (pv 6) Zad (Zap _)) (Zdu (Zaq Zca (pv 4) Zad (Zap _)))).pt (Zae (Zak (i:=5) nd rfl (Or.inr rfl) (Zal Za6 (pv 4) Zad))) Zat)
    (Zab (Zak (i:=7) nd rfl (Or.inr rfl) (ZbA (ZaM Zca (pv 4) Zad (Zap _)) (Zb2 (ZaM Zca (Zam ZeE (by rfl) T.abs boot_abs (Zaa (Zao h_l_exponent hr (by rfl) (Zaa (pv 0) (Zaa (pv 3) Zac))) Zac)) Zad (Zap _)))))
    (Zab (Zak (i:=8) nd rfl (Or.inl rfl) (Zdp Zac))
    (Zab (Zbf PassesOwn.never rfl (ZaN (by rfl) T.range (Zaa (pv 4) Zac)) (Zau (i:=9) nd rfl (Or.inr rfl)) (Zab (ZbO (i:=10) ["_law_j"] [(1, "_law_cells"),(2, "_law_at"),(9, "_law_i"),(5, "_law_columns")] nd rfl rfl rfl (ZaN (by rfl) T.range (Zaa (pv 5) Zac)) (by exact λ_ _ _ _=>(Zau (i:=0) (show (["_law_j", "_law_cells", "_law_at", "_law_i", "_law_columns"]:List Str).Nodup by decide +kernel) rfl (Or.inl rfl))) (by exact λ_ _ _ _=>(Zao h_l_cell hr (by rfl) (Zaa (pv 1) (Zaa (Zal Za6 (Zal Za6 (Zal Za6 (pv 2) Zad) (Zal ZaB (pv 3) (pv 4))) (pv 0)) Zac)))) ⟨⟨rfl,rfl,Or.inl rfl⟩,⟨⟨rfl,rfl,Or.inl rfl⟩,⟨⟨rfl,rfl,Or.inl rfl⟩,⟨⟨rfl,rfl,Or.inl rfl⟩,trivial⟩⟩⟩⟩)
      (Zae (ZaL (Zf3 PySem.F.plainAttrs_list PySem.F.slot_list_append PySem.F.type_list_append Zci (pv 8) (Zaa (Za2 ["_law_x"] [(0, "_law_prime_here"),(7, "_law_wide")] rfl (ZaI (pv 10)) (by exact λ_ _ _ _=>(Zau (i:=0) (show (["_law_x", "_law_prime_here", "_law_wide"]:List Str).Nodup by decide +kernel) rfl (Or.inl rfl))) (by exact λ_ _ _ _=>(Zao h_l_drawn hr (by rfl) (Zaa (pv 1) (Zaa (pv 0) (Zaa (pv 2) Zac))))) ⟨⟨rfl,rfl,Or.inl rfl⟩,⟨⟨rfl,rfl,Or.inl rfl⟩,trivial⟩⟩) Zac))))))
    (Zab (Zak (i:=11) nd rfl (Or.inl rfl) (Zal ZaS (Zal Zbp (Zal Zdo (pv 3) Zad) Zad) (pv 4)))
    (Zab (Zak (i:=12) nd rfl (Or.inl rfl) (Zal ZaS (Zal Zbp (Zal Zdo (pv 3) Zad) Zad) (pv 4)))
    (Zab (ZaC (Zaq Zbh (Zal Zbp (Zal Zbp (Zal Zdo (pv 3) Zad) Zad) Zad) Zad (Zap _)) (Zab (Zak (i:=13) nd rfl (Or.inr rfl) (Zao h_l_made hr (by rfl) (Zaa (pv 0) (Zaa (Zal ZaB (Zal Zb4 (Zal Zbp (Zal Zbp (Zal Zdo (pv 3) Zad) Zad) Zad) Zad) (ZbB ZeU (by rfl) T.int boot_int (Zaa (ZaM Zdv (pv 11) (pv 12) (Zap _)) Zac))) Zac))))
      (Zae (ZfP (Za2 ["_law_x"] [(0, "_law_prime_here"),(13, "_law_by")] rfl (ZaI (Zar Zav (pv 8) (pv 12) (λ_ _=>rfl))) (by exact λ_ _ _ _=>(Zau (i:=0) (show (["_law_x", "_law_prime_here", "_law_by"]:List Str).Nodup by decide +kernel) rfl (Or.inl rfl))) (by exact λ_ _ _ _=>(Zao h_l_times hr (by rfl) (Zaa (pv 1) (Zaa (pv 2) (Zaa (pv 0) Zac))))) ⟨⟨rfl,rfl,Or.inl rfl⟩,⟨⟨rfl,rfl,Or.inl rfl⟩,trivial⟩⟩) (ZfO (pv 8) (pv 11) Zdd)))) Zat)
    (Zae (Zaj (pv 8))))))))))))))),?_⟩
  have ch1:=ce.h1
  have ch2:=ce.h2
  have bc:=ce.b _ (Qe hat)
  refine ⟨_,rfl,_,rfl,c,_,_,_,rfl,rfl,SqL.of ce.l,Zhd hat,?_⟩
  refine ⟨_,rfl,_,rfl,κ,cs[at_],rfl,bc,λH1 S1=>?_⟩
  obtain ⟨r1,r2,r3⟩:=Zd1 κ cs[at_]
  have ew:wdN κ cs[at_]=(decide ((szN κ cs[at_]:Int)<3)&&decide (((exN κ cs[at_]).natAbs:Int)<3)):=rfl
  generalize hcl:cs[at_]=cl at *
  generalize hn:szN κ cl=n at *
  refine ⟨_,rfl,?_⟩
  refine ⟨_,rfl,_,_,rfl,rfl,.inr ⟨∅,∅⟩,_,_,rfl,rfl,(by show (0:Int)<_; decide),_,_,rfl,rfl,(by show (0:Int)<_; decide),?_⟩
  refine ZgP (ZcJ (λσ H2=>H2=H1/\∃m:Nat,(1<=m/\(m=n\/m+1=n/\cl*39373%65557%16=0))/\σ=[some (.int κ.P),some (.ref c),some (.int (at_:Int)),some (.int cl),some (.int (n:Int)),some (.int (m:Int)),some (.int (cl*39373%65557%16)),none,none,none,none,none,none,none]) (λN' kj=>?_) ?_)
  · refine ⟨_,rfl,rfl,_,rfl,?_⟩
    refine ZbC (λz=>?_) (λz=>?_)
    · refine ⟨_,rfl,_,_,rfl,rfl,_,rfl,?_⟩
      refine Za3 (λy=>?_) (λy=>?_)
      · have y:(1:Int)<(n:Int):=y
        refine ⟨_,rfl,_,_,rfl,rfl,?_⟩
        refine kj _ _ ⟨rfl,n-1,⟨⋯,.inr ⟨⋯,z⟩⟩,?_⟩
        rw[show ((n-1:Nat):Int)=(n:Int)-1 by omega]
        rfl
      · exact kj _ _ ⟨rfl,n,⟨r1,.inl rfl⟩,rfl⟩
    · exact kj _ _ ⟨rfl,n,⟨r1,.inl rfl⟩,rfl⟩
  rintro σ H2 ⟨rfl,m,⟨m1,mn⟩,rfl⟩
  refine ZcJ (λσ H3=>H3=H2/\∃m:Nat,(1<=m/\m<=8)/\σ=[some (.int κ.P),some (.ref c),some (.int (at_:Int)),some (.int cl),some (.int (n:Int)),some (.int (m:Int)),some (.int (cl*39373%65557%16)),none,none,none,none,none,none,none]) (λN' kj=>?_) ?_
  · refine ⟨_,rfl,rfl,_,rfl,?_⟩
    refine ZbC (λz=>?_) (λz=>?_)
    · refine ⟨_,rfl,_,_,rfl,rfl,_,rfl,?_⟩
      refine Za3 (λy=>?_) (λy=>?_)
      · refine ⟨_,rfl,_,_,rfl,rfl,?_⟩
        refine kj _ _ ⟨rfl,n+1,⟨⋯,⋯⟩,?_⟩
        rfl
      · exact kj _ _ ⟨rfl,m,⟨m1,⋯⟩,rfl⟩
    · exact kj _ _ ⟨rfl,m,⟨m1,⋯⟩,rfl⟩
  clear m1 mn m
  rintro σ H3 ⟨rfl,m,⟨m1,m8⟩,rfl⟩
  generalize hw:wdN κ cl=wd at *
  refine ZcJ (λσ H4=>Same H3 H4/\σ=[some (.int κ.P),some (.ref c),some (.int (at_:Int)),some (.int cl),some (.int (n:Int)),some (.int (m:Int)),some (.int (cl*39373%65557%16)),some (.bl wd),none,none,none,none,none,none]) (λN' kj=>?_) ?_
  · refine ⟨_,rfl,_,_,rfl,rfl,_,rfl,?_⟩
    refine Za3 (λz=>?_) (λz=>?_)
    · have z:(n:Int)<3:=z
      refine ⟨_,rfl,_,rfl,κ,cl,rfl,bc,λH4 S4=>?_⟩
      refine ⟨_,rfl,_,_,rfl,rfl,?_⟩
      refine kj _ _ ⟨S4,?_⟩
      have ea:((exN κ cl).natAbs:Int)=if exN κ cl<0 then -exN κ cl else exN κ cl:=by split <;> omega
      rw[ew,decide_eq_true z,Bool.true_and,ea]
      rfl
    · have z:¬(n:Int)<3:=z
      refine kj _ _ ⟨Same.refl _,?_⟩
      rw[ew,decide_eq_false z,Bool.false_and]
      rfl
  rintro σ H4 ⟨S4,rfl⟩
  have S14:=S1.trans S4
  clear S4 S1 ew hw
  refine ⟨(by show 0<=sizeLine; decide),λtb ntb=>?_⟩
  have Stb:=Zah ntb (.lst [])
  have qtb:=Zaf (H:=H4) (a:=tb) (o:=.lst [])
  have ntb0:H tb=none:=S14.free ntb
  generalize upd H4 tb (.lst [])=H5 at *
  have S5:=S14.trans Stb
  clear Stb S14 ntb
  refine ⟨_,rfl,(n:Int),rfl,⋯,⋯,?_⟩
  rw[Q7]
  have mul60:∀i j:Nat,i<n->j<m->i*m+j<60:=λi j hi hj=>by
    have:i*m+m<=n*m:=by rw[<-Nat.succ_mul]; exact U9 m hi
    have:n*m<=7*8:=Qz ⋯ m8
    omega
  refine Zba (lo:=0) (n:=n) (λi σ H6=>∃(z9 z10:Option V) (rs:List Addr) (R:List (List κ.F)),σ=[some (.int κ.P),some (.ref c),some (.int (at_:Int)),some (.int cl),some (.int (n:Int)),some (.int (m:Int)),some (.int (cl*39373%65557%16)),some (.bl wd),some (.ref tb),z9,z10,none,none,none]/\Same H H6/\H6 tb=some (.lst (rs.map V.ref))/\RowsX κ H6 rs R/\R.length=i/\Wid m R/\AllR (QN κ ((60:Nat):Int) (60*toN wd)) R/\tb∉rs) ⟨_,_,[],[],rfl,S5,qtb,.nil,rfl,(λf h=>nomatch h),(λf h=>nomatch h),λz=>nomatch z⟩ ?_ ?_
  · rintro i σ H6 hi ⟨z9,z10,rs,R,rfl,S6,hT,rx,lR,wR,qR,nt⟩
    have ce6:=ce.same S6
    refine ⟨_,rfl,(m:Int),rfl,⋯,⋯,?_⟩
    rw[Q7]
    refine ZbP (lo:=0) (n:=m) (λq ys H7=>H7=H6/\∃ws:List Int,ys=ws.map V.int/\ws.length=q/\∀x∈ws,Bits 1048593 x) ⋯ ⟨rfl,[],rfl,rfl,λx h=>nomatch h⟩ ?_ ?_
    · rintro q ys H7 hq _ ⟨rfl,ws,rfl,lw,bw⟩
      have ij:=mul60 i q hi hq
      refine ⟨_,rfl,_,rfl,_,_,rfl,rfl,_,rfl,_,rfl,_,_,rfl,rfl,.of_right (intBits_le_64 ⋯ ⋯),_,_,rfl,rfl,_,rfl,_,_,rfl,rfl,c,cs,at_+1+(i*m+q),?_,ce6,⋯,λmx bx=>?_⟩
      · have e:(at_:Int)+1+(0+(i:Int))*(m:Int)+(0+(q:Int))=((at_+1+(i*m+q):Nat):Int):=by
          rw[Qr,Qr,U0,U0,U0,Wl]
          show (at_:Int)+1+(i:Int)*(m:Int)+(q:Int)=(at_:Int)+1+((i:Int)*(m:Int)+(q:Int))
          omega
        show [V.ref c,V.int ((at_:Int)+1+(0+(i:Int))*(m:Int)+(0+(q:Int)))]=_
        rw[e]
      refine ⟨rfl,ws++[mx],by rw[Qj]; rfl,by rw[Qd,lw]; rfl,λx hx=>?_⟩
      rcases Qf.mp hx with z | z
      · exact bw x z
      · rw[Q6.mp z]; exact bx
    rintro ys H7 _ ⟨rfl,ws,rfl,lw,bw⟩ L nL
    have SL:=Zah nL (.lst (ws.map V.int))
    have qL:=Zaf (H:=H7) (a:=L) (o:=.lst (ws.map V.int))
    generalize upd H7 L (.lst (ws.map V.int))=H8 at *
    have hT8:=SL _ _ hT
    refine ⟨_,rfl,.inl ⟨rfl,_,SqL.of hT8⟩,_,rfl,L,rfl,⟨_,SqL.of qL⟩,?_⟩
    refine ZaG (K:=K) (a:=L) (xs:=ws.map V.int) (λq ys H9=>Same H8 H9/\∃g:List κ.F,AllG (NR κ H9) ys g/\g.length=q/\∀x∈g,QN κ ((60:Nat):Int) (60*toN wd) x) (by rw[Q1]; omega) ⟨Same.refl _,[],.nil,rfl,λx h=>nomatch h⟩ (λq ys H9 _ cc=>SqL.of (cc.1 _ _ qL)) ?_ ?_
    · rintro q x ys H9 hx hl ⟨S9,g,ag,lg,qg⟩
      rw[Qg] at hx
      obtain ⟨y,hy,rfl⟩:=Option.map_eq_some_iff.mp hx
      refine ⟨_,rfl,_,rfl,_,rfl,κ,y,wd,rfl,Bits.mono (bw y (Q9 hy)) ∅,λH10 v x S10 nv qx=>⟨S9.trans S10,g++[x],(ag.mono λ_ _ n=>n.same S10).append (.one nv),by rw[Qd,lg]; rfl,λz hz=>?_⟩⟩
      rcases Qf.mp hz with e | e
      · exact qg z e
      · rw[Q6.mp e]; exact qx
    rintro ys H9 _ ⟨S9,g,ag,lg,qg⟩ D nD
    rw[Q1,lw] at lg
    have S79:=SL.trans S9
    have SD:=Zah nD (.lst ys)
    have qD:=Zaf (H:=H9) (a:=D) (o:=.lst ys)
    have nDt:D≠tb:=λz=>by rw[z,S9 _ _ hT8] at nD; cases nD
    generalize upd H9 D (.lst ys)=H10 at *
    have S710:=S79.trans SD
    have hT10:=S710 _ _ hT
    have lr:=rx.1
    refine ⟨tb,_,_,rfl,rfl,hT10,Q5 (show (rs.map V.ref).length<1000 by rw[Q1]; omega) ∅,?_⟩
    have O6:Off [tb] H10 (upd H10 tb (.lst (rs.map V.ref++[.ref D]))):=Za4 (Same.refl H10)
    refine ⟨_,_,rs++[D],R++[g],rfl,Off.same O6 (S6.trans S710) (λz hz=>by rw[Q6.mp hz]; exact ntb0),by rw[Zaf,Qj]; rfl,((rx.same S710).off nt hT10 O6).snoc (O6 _ _ (λz=>nDt (Q6.mp z)) qD) (ag.mono λ_ _ n=>(n.same SD).off hT10 O6),by rw[Qd,lR]; rfl,wR.snoc lg,qR.snoc qg,λz=>?_⟩
    rcases Qf.mp z with q | q
    · exact nt q
    · exact nDt (Q6.mp q).symm
  rintro σ H6 ⟨z9,z10,rs,R,rfl,S6,hT,rx,lR,wR,qR,nt⟩
  obtain ⟨o1,e1,l1⟩:=ZiY (a:=cl*30323%65581) (n:=n) r1
  obtain ⟨o2,e2,l2⟩:=ZiY (a:=cl*30341%65587) (n:=n) r1
  have lr:=rx.1
  refine ⟨_,rfl,_,_,rfl,rfl,.inr ⟨∅,∅⟩,_,_,rfl,rfl,(by show (0:Int)<_; decide),_,rfl,_,_,rfl,rfl,(show (n:Int)≠0 by omega),?_⟩
  refine ZgP ?_
  rw[e1]
  refine ⟨_,rfl,_,_,rfl,rfl,.inr ⟨∅,∅⟩,_,_,rfl,rfl,(by show (0:Int)<_; decide),_,rfl,_,_,rfl,rfl,(show (n:Int)≠0 by omega),?_⟩
  refine ZgP ?_
  rw[e2]
  have qR2:AllR (QN κ ((60:Nat):Int) (2*(60*toN wd))) R:=λf hf x hx=>(qR f hf x hx).mono ⋯
  refine ZcJ (λσ H7=>∃(z13:Option V) (rs':List Addr) (R':List (List κ.F)),σ=[some (.int κ.P),some (.ref c),some (.int (at_:Int)),some (.int cl),some (.int (n:Int)),some (.int (m:Int)),some (.int (cl*39373%65557%16)),some (.bl wd),some (.ref tb),z9,z10,some (.int (o1:Int)),some (.int (o2:Int)),z13]/\Same H H7/\H7 tb=some (.lst (rs'.map V.ref))/\RowsX κ H7 rs' R'/\R'.length=n/\Wid m R'/\AllR (QN κ ((60:Nat):Int) (2*(60*toN wd))) R') (λN' kj=>?_) ?_
  · refine ⟨_,rfl,_,_,rfl,rfl,.inr ⟨∅,∅⟩,_,_,rfl,rfl,(by show (0:Int)<_; decide),_,_,rfl,rfl,(by show (0:Int)<_; decide),rfl,_,rfl,?_⟩
    refine ZbC (λz=>?_) (λz=>?_)
    case refine_2=>exact kj _ _ ⟨none,rs,R,rfl,S6,hT,rx,lR,wR,qR2⟩
    obtain ⟨s,hs⟩:∃s:Int,(cl*30307%65579%5-2)*(if (!decide (V.int (o1:Int)=V.int (o2:Int)))=true then 1 else 0)=s:=⟨_,rfl⟩
    have s2:s.natAbs<=2:=by
      rw[<-hs]
      generalize cl*30307%65579=u
      split <;> omega
    obtain ⟨y,ny⟩:=ZkO (κ:=κ) (t:=s) (Q0 s2 ∅)
    have qy:QN κ ((1:Nat):Int) 2 y:=(ZgH ny).mono s2
    refine ⟨_,rfl,_,rfl,_,_,rfl,rfl,.inr ⟨∅,∅⟩,_,_,rfl,rfl,(by show (0:Int)<_; decide),_,_,rfl,rfl,(by show (0:Int)<_; decide),_,_,rfl,rfl,_,rfl,_,rfl,rfl,.inr ⟨_,rfl,_,_,rfl,rfl,?mul,κ,s,y,?eqs,ny,λH7 vy S7 nvy=>?_⟩⟩
    case mul=>exact .of_right (by show Builtin.Int.intBits (if _ then 1 else 0)<=64; split <;> decide)
    case eqs=>rw[<-hs]; rfl
    obtain ⟨b,hb⟩:∃b,rs[o2]?=some b:=⟨_,Q2 ⋯⟩
    obtain ⟨f,hf⟩:=Zaw hb lr
    obtain ⟨xs,hxs,al⟩:=rx.2 o2 b f hb hf
    have lf:=wR f (Q9 hf)
    have qf:=qR f (Q9 hf)
    have S07:=S6.trans S7
    have hT7:=S7 _ _ hT
    have tN:toN wd<=10^59:=by unfold toN; split <;> decide
    have big:60*toN wd<2^3000:=Q5 (show 60*toN wd<2^300 from Qc (Ui 60 tN) ∅) (Qa ∅ ∅)
    have k2:(60:Nat)<2^3000:=Q5 (show 60<2^6 by decide) (Qa ∅ ∅)
    refine ⟨_,rfl,_,rfl,tb,_,_,_,rfl,rfl,SqL.of hT7,Zbq hb,b,rfl,⟨_,SqL.of (S7 _ _ hxs)⟩,?_⟩
    refine ZaG (K:=K) (a:=b) (xs:=xs) (λq ys H8=>Same H7 H8/\AllG (NR κ H8) ys ((f.map λx=>y*x).take q)) (by have:=al.1; omega) ⟨Same.refl _,by rw[W9]; exact .nil⟩ (λq ys H8 _ cc=>SqL.of ((S7.trans cc.1) _ _ hxs)) ?_ ?_
    · rintro q u ys H8 hu hl ⟨S8,az⟩
      obtain ⟨x,hx,nx⟩:=al.get hu
      have S68:=S7.trans S8
      refine ⟨_,rfl,_,rfl,_,rfl,κ,vy,u,y,x,rfl,nvy.same S8,nx.same S68,Zc9 qy ∅ (U4 ∅ k2) (U4 ∅ k2),Zc9 (qf x (Q9 hx)) ∅ k2 big,λH9 w9 S9 n9=>⟨S8.trans S9,?_⟩⟩
      rw[Qm,Qg,hx]
      exact (az.mono λ_ _ n=>n.same S9).append (.one n9)
    rintro ys H8 _ ⟨S8,az⟩ D nD
    rw[Ws (by rw[Q1]; have:=al.1; omega)] at az
    have SD:=Zah nD (.lst ys)
    have qD:=Zaf (H:=H8) (a:=D) (o:=.lst ys)
    have nDt:D≠tb:=λz=>by rw[z,S8 _ _ hT7] at nD; cases nD
    generalize upd H8 D (.lst ys)=H9 at *
    have S69:=S7.trans (S8.trans SD)
    have hT9:=S69 _ _ hT
    refine ⟨_,rfl,_,rfl,tb,rs.map V.ref,_,o1,rfl,rfl,hT9,?_,?_⟩
    · have:=Zei (i:=((o1:Nat):Int)) (n:=(rs.map V.ref).length) (Int.natCast_nonneg _) (by rw[Q1]; omega)
      rw[Q7] at this
      exact this
    have O6:Off [tb] H9 (upd H9 tb (.lst ((rs.map V.ref).set o1 (.ref D)))):=Za4 (Same.refl H9)
    refine kj _ _ ⟨_,rs.set o1 D,R.set o1 (f.map λx=>y*x),rfl,Off.same O6 (S6.trans S69) (λz hz=>by rw[Q6.mp hz]; exact ntb0),by rw[Zaf,We],((rx.same S69).off nt hT9 O6).set o1 (O6 _ _ (λz=>nDt (Q6.mp z)) qD) (az.mono λ_ _ n=>(n.same SD).off hT9 O6),by rw[W7]; exact lR,λg hg=>?_,λg hg x hx=>?_⟩
    · rcases W8 hg with q | q
      · exact wR g q
      · rw[q,Q1]; exact lf
    · rcases W8 hg with q | q
      · exact qR2 g q x hx
      · rw[q] at hx
        obtain ⟨x0,h0,rfl⟩:=Qi.mp hx
        have:=QN.mulN qy (qf x0 h0)
        rwa [Nat.one_mul] at this
  · rintro σ H7 ⟨z13,rs',R',rfl,S7,hT7,rx7,l7,w7,q7⟩
    exact ⟨_,rfl,k H7 tb rs' R' m S7 hT7 rx7 l7 w7 m1 m8 q7⟩
end
end My
namespace My
open PySem L2 PyProof.Rows
section
variable{κ:KX}
def mq(κ:KX)(c:Int):Nat:=match κ with
  | .q=>2*(60*toN (wdN .q c))
  | .r _ _=>1
theorem Zpw{c:Int}{A:List (List κ.F)}(h:AllR (QN κ ((60:Nat):Int) (2*(60*toN (wdN κ c)))) A):AllR (QN κ ((60:Nat):Int) (mq κ c)) A:=by
  cases κ with
  | r p hp=>exact λ_ _ _ _=>trivial
  | q=>exact h
theorem Zil(c:Int):(wdN .q c=true/\(szN .q c=1\/szN .q c=2)/\(exN .q c).natAbs<=2)\/(wdN .q c=false/\((szN .q c=1/\(exN .q c).natAbs<=60)\/(szN .q c=2/\(exN .q c).natAbs<=12)\/(szN .q c=3/\(exN .q c).natAbs<=6))):=by
  have a:=Zd1 .q c
  have b:=Zlb .q c
  have a2:szN .q c<=3:=a.2.1
  have e:wdN .q c=(decide ((szN .q c:Int)<3)&&decide (((exN .q c).natAbs:Int)<3)):=rfl
  cases hw:wdN .q c with
  | true =>
    rw[hw] at e
    have e:=e.symm
    rw[Uj,decide_eq_true_eq,decide_eq_true_eq] at e
    exact .inl ⟨rfl,⋯,⋯⟩
  | false =>
    refine .inr ⟨rfl,?_⟩
    have m:mst .q (szN .q c)=if szN .q c=1 then 60 else if szN .q c=2 then 12 else 6:=rfl
    rw[m] at b
    split at b
    · exact .inl ⟨by assumption,b⟩
    · split at b
      · exact .inr (.inl ⟨by assumption,b⟩)
      · exact .inr (.inr ⟨⋯,b⟩)
theorem Zmr{a b m n:Nat}(h:a<=b)(b1:1<=b)(hm:m<=n):a^m<=b^n:=Q0 (Nat.pow_le_pow_left h m) (Qa b1 hm)
theorem ZpH(κ:KX)(c:Int):PrS κ (szN κ c) (mq κ c) 60 (exN κ c).natAbs:=by
  cases κ with
  | r p hp=>trivial
  | q =>
    show Cs (szN .q c) (2*(60*toN (wdN .q c)))^_<=_/\60^_<=_/\1<=2*(60*toN (wdN .q c))
    rcases Zil c with ⟨w,s | s,e⟩ | ⟨w,⟨s,e⟩ | ⟨s,e⟩ | ⟨s,e⟩⟩ <;> rw[w,s] <;> exact ⟨Q0 (Zmr (Q4 _) ∅ e) ∅,Q0 (Qa ∅ e) ∅,∅⟩
theorem Zlo(κ:KX)(c:Int):1<=mq κ c/\mq κ c<=12*10^60:=by
  cases κ with
  | r p hp=>exact ⟨Q4 1,by show 1<=12*10^60; decide⟩
  | q =>
    show 1<=2*(60*toN (wdN .q c))/\2*(60*toN (wdN .q c))<=12*10^60
    cases wdN .q c <;> decide
theorem Zqn(c:Int){E:Nat}(hE:E<=60^(szN .q c-1)*eSz (szN .q c) (mq .q c)):PrS .q (szN .q c) (cSz (szN .q c) (mq .q c)*60^szN .q c) E (exN .q c).natAbs/\E<=10^140/\cSz (szN .q c) (mq .q c)*60^szN .q c<=10^400:=by
  have em:mq .q c=2*(60*toN (wdN .q c)):=rfl
  rw[em] at hE ⊢
  rcases Zil c with ⟨w,s | s,e⟩ | ⟨w,⟨s,e⟩ | ⟨s,e⟩ | ⟨s,e⟩⟩ <;> rw[w,s] at hE <;> rw[w,s] <;> exact ⟨⟨Q0 (Zmr (Q4 _) ∅ e) ∅,Q0 (Zmr hE ∅ e) ∅,∅⟩,Q0 hE ∅,∅⟩
theorem Zms{Pq:κ.F->Prop}{B:List (List κ.F)}{n:Nat}(l:B.length=n)(w:Wid n B)(h:∀i j,i<n->j<n->Pq (ent B i j)):AllR Pq B:=λf hf x hx=>by
  obtain ⟨i,hi,rfl⟩:=Wf hf
  obtain ⟨j,hj,rfl⟩:=Wf hx
  have lw:=w _ (Qe hi)
  have:=h i j ⋯ ⋯
  unfold ent at this
  rw[ZaD (Q2 hi),Q3,Q2 hj] at this
  exact this
theorem Zmt{c:Int}{A B:List (List κ.F)}(lB:B.length=szN κ c)(wB:Wid (szN κ c) B)(qA:AllR (QN κ ((60:Nat):Int) (mq κ c)) A)(h1:∀i j,i<szN κ c->j<szN κ c->Sg (λl=>ent B i l*ent A l j) (szN κ c)=if i=j then 1 else 0)(h2:∀i j,i<szN κ c->j<szN κ c->Sg (λl=>ent A i l*ent B l j) (szN κ c)=if i=j then 1 else 0) :
    ∃D M:Nat,AllR (QN κ (D:Int) M) B/\0<D/\D<=10^140/\M<=10^400/\PrS κ (szN κ c) M D (exN κ c).natAbs:=by
  cases κ with
  | r p hp=>exact ⟨1,1,λ_ _ _ _=>trivial,∅,∅,∅,trivial⟩
  | q =>
    have a:=Zd1 .q c
    obtain ⟨E,e0,e1,qB⟩:=ZoN a.1 a.2.1 ∅ (Zlo .q c).1 (λi j _ _=>Zlc qA i j) h1 h2
    obtain ⟨p1,p2,p3⟩:=Zqn c e1
    exact ⟨E,_,Zms lB wB qB,e0,p2,p3,p1⟩
theorem Zpx(κ:KX)(c:Int):(exN κ c).natAbs<=60:=by
  refine Q0 (Zlb κ c) ?_
  cases κ with
  | q =>
    show (if _ then 60 else if _ then 12 else 6)<=60
    split
    · decide
    · split <;> decide
  | r p hp =>
    show (if _ then 12 else 4)<=60
    split <;> decide
theorem ZoP(κ:KX)(c:Int):(szN κ c*mq κ c)^(exN κ c).natAbs<=10^180/\60^(exN κ c).natAbs<=10^120:=by
  have a:=Zd1 κ c
  cases κ with
  | q =>
    have p:=ZpH .q c
    have s1:szN .q c*mq .q c<=Cs (szN .q c) (mq .q c):=by
      unfold Cs
      refine U9 _ ?_
      have:szN .q c^1<=szN .q c^3:=Qa a.1 ∅
      rwa [Nat.pow_one] at this
    refine ⟨Q0 (Nat.pow_le_pow_left s1 _) p.1,?_⟩
    have b:(exN .q c).natAbs<=60:=by
      rcases Zil c with ⟨_,_,e⟩ | ⟨_,⟨_,e⟩ | ⟨_,e⟩ | ⟨_,e⟩⟩ <;> omega
    exact Q0 (Qa ∅ b) ∅
  | r p hp =>
    have b:=Zlb (.r p hp) c
    have m:mst (.r p hp) (szN (.r p hp) c)<=12:=by
      show (if _ then 12 else 4)<=12
      split <;> decide
    have z:szN (.r p hp) c*mq (.r p hp) c<=7:=by
      show _*1<=7
      omega
    exact ⟨Q0 (Zmr z ∅ (Q0 b m)) ∅,Q0 (Qa ∅ (Q0 b m)) ∅⟩
theorem ZpI{c:Int}{A:List (List κ.F)}{m:Nat}(lA:A.length=szN κ c)(wd:Wid m A)(qA:AllR (QN κ ((60:Nat):Int) (mq κ c)) A):QT κ m (Zc3 A (([]:List κ.F).map (1 * ·))):=by
  cases κ with
  | r p' hp'=>exact ⟨(λz=>nomatch z),⟨1,1,1,∅,ZoF ∅,∅,λf _=>⟨λ_ _=>trivial,λ_ _=>trivial⟩⟩⟩
  | q =>
    have a:=Zd1 .q c
    have a2:szN .q c<=3:=a.2.1
    refine ⟨λ_=>by rw[ZiO]; omega,⟨60,120,1,∅,Bits.of ∅,∅,λf hf=>?_⟩⟩
    unfold Zc3 at hf
    obtain ⟨i,hi,rfl⟩:=Qi.mp hf
    have hi:i<A.length:=by simpa using hi
    constructor
    · intro x hx
      rw[List.take_append_of_le_length (by rw[wd.get hi]; exact Q4 _)] at hx
      obtain ⟨X,e,lX⟩:=qA.getD i x (Uo hx)
      refine ⟨X,e,Bits.of (Qc lX (Qc (Zlo .q c).2 ∅))⟩
    · intro x hx
      rw[ZfY _ wd hi] at hx
      rcases Q8.mp hx with q | q
      · rw[q]
        exact QS.zero
      · unfold Zh5 at q
        obtain ⟨j,_,rfl⟩:=Qi.mp q
        by_cases e:i=j
        · rw[if_pos e]
          exact ⟨1,(Qs (1:Rat)).symm,ZoF ∅⟩
        · rw[if_neg e]
          exact QS.zero
theorem Zhv{a b:Nat}(h:a<=10^b)(hb:b<=600:=by decide):a<2^3000:=Qc (Q0 h (Qa ∅ hb)) (Q5 (show 10^600<2^2000 by decide) (Qa ∅ ∅))
theorem Zqo(κ:KX)(c:Int){k:Nat}(hk:k<(exN κ c).natAbs):LimP (60^k) 60 ((szN κ c*mq κ c)^k) (mq κ c):=by
  obtain ⟨a,b⟩:=ZoP κ c
  obtain ⟨m1,m2⟩:=Zlo κ c
  have s:=Zd1 κ c
  have a':(szN κ c*mq κ c)^k<=10^180:=Q0 (Qa (Wa s.1 m1) (Wv hk)) a
  have b':60^k*60<=10^120:=by rw[<-Wc]; exact Q0 (Qa ∅ hk) b
  have c':mq κ c<=10^62:=Q0 m2 ∅
  exact ⟨U1 ∅,∅,Zhv b',Zhv a',Zhv c',Zhv (b:=250) (Q0 (Ui 7 (Qz a' c')) ∅)⟩
theorem Zqp(κ:KX)(c:Int){Dn Bn:Nat}(d0:0<Dn)(d:Dn<=10^250)(b:Bn<=10^190):LimP Dn (60^(exN κ c).natAbs) Bn ((szN κ c*mq κ c)^(exN κ c).natAbs):=by
  obtain ⟨a1,b1⟩:=ZoP κ c
  exact ⟨d0,U1 ∅,Zhv (b:=370) (Q0 (Qz d b1) ∅),Zhv b,Zhv a1,Zhv (b:=380) (Q0 (Ui 7 (Qz b a1)) ∅)⟩
end
theorem ZmQ{H:Hp}{a:Addr}{n:Nat}{c:Int}(h:H a=some (.lst (List.replicate n (.int c)))):Rp H 1 (.ref a) (.list (List.replicate n (.int c))):=by
  refine Zkc h ⟨by simp,λi v d hv hd=>?_⟩
  rw[List.getElem?_replicate] at hv hd
  split at hv
  · rename_i q
    rw[if_pos q] at hd
    cases hv; cases hd; exact Zgn
  · cases hv
inductive ZdL (CF CR:Addr) (vs:List V) (H:Hp) (Q:VK) (zE:XK):Prop
  | mk (κ:KX) (s t:Addr) (rs:List Addr) (A:List (List κ.F)) (m:Nat) (c:Int) (_:vs=[.ref s,.int κ.P,.ref t,.int (exN κ c)]) (_:KdX CF CR κ H s) (_:H t=some (.lst (rs.map V.ref))) (_:RowsX κ H rs A) (_:A.length=szN κ c) (_:Wid m A) (_:1<=m) (_:m<=8) (_:AllR (QN κ ((60:Nat):Int) (2*(60*toN (wdN κ c)))) A) (_:∀H',Same H H'->Q (.bl true) H'):ZdL CF CR vs H Q zE
structure Fnd (κ:KX) (H H':Hp) (fo:Addr) (as:List Addr) (T:List (List κ.F)) (A:List (List κ.F)) (n:Nat) (e:Int) (Dn Bn:Nat):Prop where
  l:H' fo=some (.lst (as.map V.ref))
  r:RowsX κ H' as T
  ln:T.length=n
  w:Wid n T
  q:AllR (QN κ (Dn:Int) Bn) T
  d0:0<Dn
  d1:Dn<=10^250
  b1:Bn<=10^190
  nd:as.Nodup
  nf:fo∉as
  fr:∀b∈as,H b=none
  ff:H fo=none
  po:0<=e->∀i j,i<n->j<n->ent T i j=pw (ent A) n e.natAbs i j
  ne:e<0->∀i j,i<n->j<n->Sg (λl=>ent T i l*pw (ent A) n e.natAbs l j) n=if i=j then 1 else 0
end My
namespace My
open PySem L2 PyProof.Rows
section
variable{P:Program}{w:World}{K:PySem.W.Frag}{mg:Str->Option Value}{base:Heap}{CF CR cF cI:Addr}
theorem sc_l_told:FnScope ["_law_kind_here", "_law_prime_here", "_law_table_here", "_law_n", "_law_kept", "_law_many", "_law_found", "_law_size_here", "_law_due", "_law_k", "_law_here", "_law_row"] ["_law_kind_here", "_law_prime_here", "_law_table_here", "_law_n"] (Zag Zgi):=‹2›
theorem Zim(h:Here K mg "_law_told" Zgi) (T:Nm mg) (h_l_no_fit:Has P w K mg base "_law_no_fit" 12 ["_law_error_here"] (ZcH cF)) (h_l_no_inverse:Has P w K mg base "_law_no_inverse" 12 ["_law_error_here", "_law_many"] (ZcI cI)) (h_l_error:Has P w K mg base "_law_error" 12 ["_law_kind_here", "_law_table_here", "_law_n"] (Zda CF CR cF cI)) (h_l_rank:Has P w K mg base "_law_rank" 12 ["_law_prime_here", "_law_table_here"] ZdJ) (h_power:HasX P w K mg base "power" 12 ["kind", "A", "n"] (ZgM CF CR cF cI (ZgM CF CR cF cI spF))) (h_l_is_table:Has P w K mg base "_law_is_table" 12 ["_law_prime_here", "_law_found", "_law_rows"] Zb1) (h_l_unit:Has P w K mg base "_law_unit" 12 ["_law_prime_here", "_law_size_here"] ZdI) (h_l_product:Has P w K mg base "_law_product" 12 ["_law_prime_here", "_law_one", "_law_other"] Zch):Has P w K mg base "_law_told" 13 ["_law_kind_here", "_law_prime_here", "_law_table_here", "_law_n"] (ZdL CF CR):=by
  refine h.has (λf fd F=>F.binds λ_ _ _ _ _ _ us hl=>by obtain ⟨_,_,_,_,rfl⟩:=Zpe hl; exact rfl) λf fd F=>F.ok sc_l_told (λvs H Q E h=>?_) (λcdv A outer s H vs Q E hr h=>?_)
  · obtain ⟨_,_,_,_,_,_,_,rfl,_⟩:=h
    rfl
  obtain ⟨κ,sk,tb,rs,A,m,c,rfl,kx,hT,rA,lA,wA,m1,m8,qA0,k⟩:=h
  have nd:=sc_l_told.nd
  refine ⟨_,(Zab (ZbO (i:=4) ["_law_row"] [] nd rfl rfl rfl (ZaI (pv 2)) (by exact λ_ _ _ _=>(Zau (i:=0) (show (["_law_row"]:List Str).Nodup by decide +kernel) rfl (Or.inl rfl))) (by exact λ_ _ _ _=>(ZbB (ZbL K rfl) (by rfl) T.list boot_list (Zaa (pv 0) Zac))) trivial)
    (Zab (ZaC (Zaq Zdv (Zam Zai (by rfl) T.len boot_len (Zaa (pv 2) Zac)) (Zam Zai (by rfl) T.len boot_len (Zaa (Zar Zav (pv 2) Zad (λ_ _=>rfl)) Zac)) (Zap _)) (Zae (Zaj (ZbA (Zao h_l_no_fit hr (by rfl) (Zaa (Zao h_l_error hr (by rfl) (Zaa (pv 0) (Zaa (pv 2) (Zaa (pv 3) Zac)))) Zac)) (Zb2 (ZaM (ZiC hr) (pv 2) (pv 4) (Zap _)))))) Zat)
    (Zab (Zak (i:=5) nd rfl (Or.inl rfl) (Zao h_l_rank hr (by rfl) (Zaa (pv 1) (Zaa (pv 4) Zac))))
    (Zab (ZaC (ZeS (Zaq Zca (pv 3) Zad (Zap _)) (Zdu (Zaq Zca (pv 5) (Zam Zai (by rfl) T.len boot_len (Zaa (pv 2) Zac)) (Zap _)))).pt (Zae (Zaj (ZbA (Zao h_l_no_inverse hr (by rfl) (Zaa (Zao h_l_error hr (by rfl) (Zaa (pv 0) (Zaa (pv 2) (Zaa (pv 3) Zac)))) (Zaa (pv 5) Zac))) (Zb2 (ZaM (ZiC hr) (pv 2) (pv 4) (Zap _)))))) Zat)
    (Zab (Zak (i:=6) nd rfl (Or.inl rfl) (Zcr h_power ZeC hr (by rfl) (Zaa (pv 0) (Zaa (pv 2) (Zaa (pv 3) Zac)))))
    (Zab (Zak (i:=7) nd rfl (Or.inr rfl) (Zam Zai (by rfl) T.len boot_len (Zaa (pv 2) Zac)))
    (Zab (ZaC (Zhx (ZbR (Zbo (Zao h_l_is_table hr (by rfl) (Zaa (pv 1) (Zaa (pv 6) (Zaa (pv 7) Zac)))))) (ZeR (Zaq (Zkb hr) (pv 2) (pv 4) (Zap _)))).pt (Zae (Zaj ZcL)) Zat)
    (Zab (Zak (i:=8) nd rfl (Or.inl rfl) (Zao h_l_unit hr (by rfl) (Zaa (pv 1) (Zaa (pv 7) Zac))))
    (Zab (Zbf PassesOwn.never rfl (ZaN (by rfl) T.range (Zaa (Zam ZeE (by rfl) T.abs boot_abs (Zaa (pv 3) Zac)) Zac)) (Zau (i:=9) nd rfl (Or.inl rfl)) (Zae (Zak (i:=8) nd rfl (Or.inl rfl) (Zao h_l_product hr (by rfl) (Zaa (pv 1) (Zaa (pv 8) (Zaa (pv 4) Zac)))))))
    (Zab (ZaC (ZeS (Zaq Zod (pv 3) Zad (Zap _)) (Zdu (Zaq (Zkb hr) (pv 6) (pv 8) (Zap _)))).pt (Zae (Zaj ZcL)) Zat)
    (Zab (Zkd 10 (ZaC (Zaq Zca (pv 3) Zad (Zap _)) (Zab (Zak (i:=10) nd rfl (Or.inl rfl) (Zao h_l_product hr (by rfl) (Zaa (pv 1) (Zaa (pv 6) (Zaa (pv 8) Zac)))))
      (Zae (ZaC (Zaq (Zkb hr) (pv 10) (Zao h_l_unit hr (by rfl) (Zaa (pv 1) (Zaa (pv 7) Zac))) (Zap _)) (Zae (Zaj ZcL)) Zat))) Zat))
    (Zab (Zbf PassesOwn.never rfl (ZaI (pv 6)) (Zau (i:=11) nd rfl (Or.inl rfl)) (Zae (ZaL (Zf3 PySem.F.plainAttrs_list PySem.F.slot_list_append PySem.F.type_list_append Zci (pv 11) (Zaa Zmu Zac)))))
    (Zae (Zaj (ZbA (ZaM (ZiC hr) (pv 2) (pv 4) (Zap _)) (Zb2 (ZaM (ZiC hr) (Za2 ["_law_row"] [] rfl (ZaI (pv 6)) (by exact λ_ _ _ _=>(Zau (i:=0) (show (["_law_row"]:List Str).Nodup by decide +kernel) rfl (Or.inl rfl))) (by exact λ_ _ _ _=>(Zam (Zf6 K rfl) (by rfl) T.len boot_len (Zaa (pv 0) Zac))) trivial) (Za2 ["_law_row"] [(7, "_law_size_here")] rfl (ZaI (pv 2)) (by exact λ_ _ _ _=>(Zau (i:=0) (show (["_law_row", "_law_size_here"]:List Str).Nodup by decide +kernel) rfl (Or.inl rfl))) (by exact λ_ _ _ _=>(Zal Za6 (pv 1) Zad)) ⟨⟨rfl,rfl,Or.inl rfl⟩,trivial⟩) (Zap _)))))))))))))))))),?_⟩
  obtain ⟨n1,n2,n7'⟩:=Zd1 κ c
  have n7:szN κ c<=7:=Q0 n2 n7'
  have qA:=Zpw qA0
  have n3:κ = .q->szN κ c<=3:=λe=>by subst e; exact n2
  have lr:=rA.1
  obtain ⟨nn,hnn⟩:∃nn,szN κ c=nn:=⟨_,rfl⟩
  refine ⟨_,rfl,tb,rfl,⟨_,SqL.of hT⟩,?_⟩
  refine ZaG (K:=K) (a:=tb) (xs:=rs.map V.ref) (λi ys H4=>∃cs:List Addr,ys=cs.map V.ref/\Same H H4/\RowsX κ H4 cs (A.take i)) (by rw[Q1]; omega) ⟨[],rfl,Same.refl _,by rw[W9]; exact .nil⟩ (λi ys H4 _ ⟨as,_,S,_⟩=>SqL.of (S _ _ hT)) ?_ ?_
  · rintro i x ys H4 hx hl ⟨cs,rfl,S,ra⟩
    obtain ⟨b,hb,rfl⟩:=Zax hx
    obtain ⟨f,hf⟩:=Zaw hb lr
    obtain ⟨xs,hxs,fl⟩:=rA.2 i b f hb hf
    refine ⟨_,rfl,b,xs,rfl,.inl (SqL.of (S _ _ hxs)),λl nl=>?_⟩
    have Sl:=Zah nl (.lst xs)
    refine ⟨cs++[l],by rw[Qj]; rfl,S.trans Sl,?_⟩
    rw[Qm,hf]
    exact (ra.same Sl).snoc Zaf (fl.mono λ_ _ n=>n.same (S.trans Sl))
  rintro ys H4 hl' ⟨ks,rfl,S4,rk⟩ kp nkp
  rw[Q1,lr,W6] at rk
  have Skp:=Zah nkp (.lst (ks.map V.ref))
  have qkp:=Zaf (H:=H4) (a:=kp) (o:=.lst (ks.map V.ref))
  generalize upd H4 kp (.lst (ks.map V.ref))=H5 at *
  have S5:=S4.trans Skp
  have rk5:=rk.same Skp
  have rA5:=rA.same S5
  have hT5:=S5 _ _ hT
  have kx5:=kx.same S5
  have tR:TabR κ H5 tb rs A m:=⟨hT5,rA5,wA,⋯,⋯⟩
  clear S4 Skp nkp rk hl'
  have same:∀Hx,Same H5 Hx->Rp Hx 3 (.ref tb) (Zpk A)/\Rp Hx 3 (.ref kp) (Zpk A):=λHx S=>⟨(rA5.same S).rp (S _ _ hT5),(rk5.same S).rp (S _ _ qkp)⟩
  obtain ⟨a0,x0,g0,hx0,al0⟩:=rA5.get (i:=0) ⋯
  have lx0:x0.length=m:=by rw[al0.1]; exact wA _ (Qe _)
  refine ⟨_,rfl,tb,_,rfl,.inl (SqL.of hT5),_,rfl,tb,_,0,_,rfl,rfl,SqL.of hT5,Zbq (i:=0) g0,a0,_,rfl,.inl (SqL.of hx0),rfl,_,rfl,?_⟩
  rw[Q1,lr,lA,lx0]
  refine ZcO (λz=>?_) (λz=>?_)
  · refine ⟨_,rfl,_,rfl,_,rfl,κ,sk,tb,rs,A,m,exN κ c,rfl,kx5,tR,.inl ⟨(λq=>z (by rw[<-lA,q])),λH6 e6 S6 he=>⟨e6,rfl,he,λH7 S7=>?_⟩⟩⟩
    obtain ⟨r1,r2⟩:=same H7 (S6.trans S7)
    exact ⟨_,rfl,ZfG ⟨_,rfl,_,rfl,_,r1.mono ∅,r2.mono ∅,k H7 (S5.trans (S6.trans S7))⟩⟩
  have mz:m=szN κ c:=by omega
  subst mz
  refine ⟨_,rfl,_,rfl,κ,kp,ks,A,szN κ c,mq κ c,rfl,qkp,rk5,lA,wA,n1,n7,n3,qA,(Zlo κ c).2,λH6 R ts ls S6 eA ok0 lR wR ech=>?_⟩
  have hT6:=S6 _ _ hT5
  have kx6:=kx5.same S6
  have tR6:=tR.same S6
  have e60:=Zpx κ c
  refine ZgP (ZcJ (λσ H7=>H7=H6/\(exN κ c<0->ls.length=szN κ c)/\σ=[some (.ref sk),some (.int κ.P),some (.ref tb),some (.int (exN κ c)),some (.ref kp),some (.int (ls.length:Int)),none,none,none,none,none,none]) (λN' kj=>?_) ?_)
  · refine ⟨_,rfl,_,_,rfl,rfl,_,rfl,?_⟩
    refine Za3 (λz=>?_) (λz=>?_)
    · have z:exN κ c<0:=z
      refine ⟨_,rfl,_,rfl,tb,_,rfl,.inl (SqL.of hT6),_,_,rfl,rfl,_,rfl,?_⟩
      rw[Q1,lr,lA]
      refine Za3 (λy=>?_) (λy=>?_)
      · have y:(ls.length:Int)<(szN κ c:Int):=y
        refine ⟨_,rfl,_,rfl,_,rfl,κ,sk,tb,rs,A,szN κ c,exN κ c,rfl,kx6,tR6,.inr ⟨lA,n7,z,R,ts,ls,eA,lR,wR,ok0,ech,ZpI lA wA qA,⋯,λH7 e7 d7 S7 he hd=>⟨_,rfl,e7,d7,_,rfl,he,hd,λH8 S8=>?_⟩⟩⟩
        obtain ⟨r1,r2⟩:=same H8 (S6.trans (S7.trans S8))
        exact ⟨_,rfl,ZfG ⟨_,rfl,_,rfl,_,r1.mono ∅,r2.mono ∅,k H8 (S5.trans (S6.trans (S7.trans S8)))⟩⟩
      · have y:¬(ls.length:Int)<(szN κ c:Int):=y
        exact kj _ _ ⟨rfl,λ_=>by have:=ech.le; omega,rfl⟩
    · exact kj _ _ ⟨rfl,λq=>absurd q z,rfl⟩
  rintro σ H7 ⟨rfl,full,rfl⟩
  refine ZcJ (λσ H8=>∃(fo:Addr) (as:List Addr) (TT:List (List κ.F)) (Dn Bn:Nat),Same H7 H8/\Fnd κ H7 H8 fo as TT A (szN κ c) (exN κ c) Dn Bn/\σ=[some (.ref sk),some (.int κ.P),some (.ref tb),some (.int (exN κ c)),some (.ref kp),some (.int (ls.length:Int)),some (.ref fo),none,none,none,none,none]) (λN' kj=>?_) ?_
  · refine ⟨_,rfl,_,rfl,_,rfl,κ,sk,tb,rs,A,szN κ c,exN κ c,rfl,kx6,tR6,(λq=>absurd lA q),λ_=>⟨n7,(λp0=>?_),λn0=>?_⟩⟩
    · have etn:(exN κ c).toNat=(exN κ c).natAbs:=by omega
      refine ⟨60,mq κ c,qA,∅,∅,Q0 (Zlo κ c).2 ∅,⋯,(by rw[etn]; exact ZpH κ c),λH8 X as TT Dn Bn S8 hX rX lT wT eT qT d0 d1 b1 ndp nX fr fX=>kj _ _ ⟨X,as,TT,Dn,Bn,S8,⟨hX,rX,lT,wT,qT,d0,d1,b1,ndp,nX,fr,fX,(λ_ i j hi hj=>by rw[eT i j hi hj,etn]),λq=>absurd q ⋯⟩,rfl⟩⟩
    · have fl:=full n0
      refine ⟨R,ts,ls,eA,lR,wR,ok0,ech,ZpI lA wA qA,(λq=>by omega),λ_ H8 D as ts' S8 nD hD rD ok' e'=>?_⟩
      have eU:=Zme lR wR ech fl
      rw[eU] at eA e'
      have iu:=λi j (hi:i<szN κ c) (hj:j<szN κ c)=>ZkP ok0 ok' e' hi hj
      rw[<-eA] at iu
      have lu:=ZaH (κ:=κ) (szN κ c)
      have wu:=ZaR (κ:=κ) (szN κ c)
      have lB:(ZaE ts' (ZaA κ (szN κ c))).length=szN κ c:=by rw[ZaP,lu]
      have wB:Wid (szN κ c) (ZaE ts' (ZaA κ (szN κ c))):=ZaX wu (by rw[lu]; exact ok')
      generalize ZaE ts' (ZaA κ (szN κ c))=B at *
      have h1:∀i j,i<szN κ c->j<szN κ c->Sg (λl=>ent B i l*ent A l j) (szN κ c)=if i=j then 1 else 0:=λi j hi hj=>by
        rw[<-(iu i j hi hj).1]; exact (Zid _ _ _).symm
      have h2:∀i j,i<szN κ c->j<szN κ c->Sg (λl=>ent A i l*ent B l j) (szN κ c)=if i=j then 1 else 0:=λi j hi hj=>by
        rw[<-(iu i j hi hj).2]; exact (Zid _ _ _).symm
      obtain ⟨Di,Mi,qB,di0,di1,mi1,pri⟩:=Zmt lB wB qA h1 h2
      have etn:(-exN κ c).toNat=(exN κ c).natAbs:=by omega
      refine ⟨κ,sk,D,as,B,szN κ c,-exN κ c,rfl,kx6.same S8,⟨hD,rD,wB,⋯,⋯⟩,(λq=>absurd lB q),λ_=>⟨n7,(λ_=>⟨Di,Mi,qB,di0,di1,mi1,⋯,(by rw[etn]; exact pri),λH9 X bs TT Dn Bn S9 hX rX lT wT eT qT d0 d1 b1 ndp nX fr fX=>kj _ _ ⟨X,bs,TT,Dn,Bn,S8.trans S9,⟨hX,rX,lT,wT,qT,d0,d1,b1,ndp,nX,(λb hb=>S8.free (fr b hb)),S8.free fX,(λq=>absurd q ⋯),λ_ i j hi hj=>?_⟩,rfl⟩⟩),λq=>by omega⟩⟩
      rw[etn] at eT
      rw[<-ZmP h1 (exN κ c).natAbs i j hi hj]
      exact Zaz λl hl=>by rw[eT i l hi hl]
  rintro σ H8 ⟨fo,as,TT,Dn,Bn,S8,fd,rfl⟩
  have S58:=S6.trans S8
  have hT8:=S58 _ _ hT5
  have hK8:=S58 _ _ qkp
  refine ⟨_,rfl,tb,_,rfl,.inl (SqL.of hT8),?_⟩
  rw[Q1,lr,lA]
  obtain ⟨r1,r2⟩:=same H8 S58
  refine ⟨_,rfl,_,rfl,_,rfl,κ,fo,as,TT,(by rw[fd.ln]; rfl),fd.l,fd.r,(by rw[fd.ln]; exact fd.w),_,rfl,ZeF ?_⟩
  refine ⟨_,rfl,_,rfl,_,r1.mono ∅,r2.mono ∅,_,rfl,?_⟩
  refine ⟨_,rfl,_,rfl,κ,szN κ c,rfl,n1,n7,λH9 ua us S9 hU rU=>?_⟩
  have ea:(if exN κ c<0 then -exN κ c else exN κ c)=(((exN κ c).natAbs:Nat):Int):=by split <;> omega
  refine ⟨_,rfl,_,rfl,(((exN κ c).natAbs:Nat):Int),(by rw[<-ea]),⋯,⋯,?_⟩
  rw[Q7]
  refine Zba (lo:=0) (n:=(exN κ c).natAbs) (λq σ H10=>∃(z9:Option V) (da:Addr) (ds:List Addr) (X:List (List κ.F)),σ=[some (.ref sk),some (.int κ.P),some (.ref tb),some (.int (exN κ c)),some (.ref kp),some (.int (ls.length:Int)),some (.ref fo),some (.int (szN κ c:Int)),some (.ref da),z9,none,none]/\Same H9 H10/\H10 da=some (.lst (ds.map V.ref))/\RowsX κ H10 ds X/\X.length=szN κ c/\Wid (szN κ c) X/\(∀i j,i<szN κ c->j<szN κ c->ent X i j=pw (ent A) (szN κ c) q i j)/\AllR (QN κ ((60^q:Nat):Int) ((szN κ c*mq κ c)^q)) X) ⟨_,ua,us,ZaA κ (szN κ c),rfl,Same.refl _,hU,rU,ZaH _,ZaR _,(λi j hi hj=>ZgL hi hj),(by rw[Nat.pow_zero,Nat.pow_zero]; exact Zdn _)⟩ ?_ ?_
  · rintro q σ H10 hq ⟨z9,da,ds,X,rfl,S10,hD,rX,lX,wX,eX,qX⟩
    have S510:=S58.trans (S9.trans S10)
    refine ⟨_,rfl,_,rfl,_,rfl,κ,da,kp,ds,ks,X,A,szN κ c,60^q,60,(szN κ c*mq κ c)^q,mq κ c,rfl,hD,rX,S510 _ _ qkp,rk5.same S510,lX,wX,lA,wA,n1,n7,qX,qA,Zqo κ c hq,λH11 t ds' T' S11 hT' rT' lT' wT' eT' qT'=>⟨_,t,ds',T',rfl,S10.trans S11,hT',rT',lT',wT',(λi j hi hj=>?_),?_⟩⟩
    · rw[eT' i j hi hj,<-Zic _ _ _ _ _ hi hj]
      exact Zaz λl hl=>by rw[eX i l hi hl]; grind
    · rw[Wc,Wc]
      exact λf hf x hx=>(qT' f hf x hx).mono (Wx (by grind))
  rintro σ H10 ⟨z9,da,ds,X,rfl,S10,hD,rX,lX,wX,eX,qX⟩
  have S810:=S9.trans S10
  have hF10:=S810 _ _ fd.l
  have rF10:=fd.r.same S810
  refine ZcJ (λσ H11=>H11=H10/\σ=[some (.ref sk),some (.int κ.P),some (.ref tb),some (.int (exN κ c)),some (.ref kp),some (.int (ls.length:Int)),some (.ref fo),some (.int (szN κ c:Int)),some (.ref da),z9,none,none]) (λN' kj=>kj _ _ ⟨rfl,rfl⟩) ?_
  rintro σ H11 ⟨rfl,rfl⟩
  refine ZcJ (λσ H12=>H12=H11/\σ=[some (.ref sk),some (.int κ.P),some (.ref tb),some (.int (exN κ c)),some (.ref kp),some (.int (ls.length:Int)),some (.ref fo),some (.int (szN κ c:Int)),some (.ref da),z9,none,none]) (λN' kj=>?_) ?_
  · refine ⟨_,rfl,_,_,rfl,rfl,_,rfl,?_⟩
    refine Za3 (λz=>?_) (λz=>?_)
    · have z:(0:Int)<=exN κ c:=z
      have eF:TT=X:=by
        refine ZdH (m:=szN κ c) (by rw[fd.ln,lX]) fd.w wX λi hi j hj=>?_
        rw[fd.ln] at hi
        rw[fd.po z i j hi hj,eX i j hi hj]
      refine ⟨_,rfl,_,rfl,_,(rF10.rp hF10).mono ∅,(by rw[eF]; exact (rX.rp hD).mono ∅),_,rfl,?_⟩
      exact kj _ _ ⟨rfl,rfl⟩
    · exact kj _ _ ⟨rfl,rfl⟩
  rintro σ H12 ⟨rfl,rfl⟩
  refine ZcJ (λσ H13=>Same H12 H13/\σ=[some (.ref sk),some (.int κ.P),some (.ref tb),some (.int (exN κ c)),some (.ref kp),some (.int (ls.length:Int)),some (.ref fo),some (.int (szN κ c:Int)),some (.ref da),z9,none,none]) (λN' kj=>?_) ?_
  · refine ⟨_,rfl,_,_,rfl,rfl,_,rfl,?_⟩
    refine Za3 (λz=>?_) (λz=>?_)
    · have z:exN κ c<0:=z
      refine ⟨_,rfl,_,rfl,_,rfl,κ,fo,da,as,ds,TT,X,szN κ c,Dn,60^(exN κ c).natAbs,Bn,(szN κ c*mq κ c)^(exN κ c).natAbs,rfl,hF10,rF10,hD,rX,fd.ln,fd.w,lX,wX,n1,n7,fd.q,qX,Zqp κ c fd.d0 fd.d1 fd.b1,λH12 t ds' T' S12 hT' rT' lT' wT' eT' qT'=>?_⟩
      refine ⟨_,rfl,_,rfl,_,rfl,κ,szN κ c,rfl,n1,n7,λH13 ub vs S13 hU' rU'=>?_⟩
      have eU:T'=ZaA κ (szN κ c):=by
        refine ZdH (m:=szN κ c) (by rw[lT',ZaH]) wT' (ZaR _) λi hi j hj=>?_
        rw[lT'] at hi
        rw[eT' i j hi hj,ZgL hi hj,<-fd.ne z i j hi hj]
        exact Zaz λl hl=>by rw[eX l j hl hj]
      rw[eU] at rT'
      refine ⟨_,((rT'.same S13).rp (S13 _ _ hT')).mono ∅,(rU'.rp hU').mono ∅,_,rfl,?_⟩
      exact kj _ _ ⟨S12.trans S13,rfl⟩
    · exact kj _ _ ⟨Same.refl _,rfl⟩
  rintro σ Hc ⟨Sc,rfl⟩
  have hDc:=Sc _ _ hF10
  have rac:=rF10.same Sc
  have la:=fd.r.1
  have nDas:=fd.nf
  have nd2:=fd.nd
  have lT:=fd.ln
  have wT:=fd.w
  refine ⟨_,rfl,fo,rfl,⟨_,SqL.of hDc⟩,?_⟩
  refine Zcn (xs:=as.map V.ref) (λi σ Hi=>∃(z11:Option V),σ=[some (.ref sk),some (.int κ.P),some (.ref tb),some (.int (exN κ c)),some (.ref kp),some (.int (ls.length:Int)),some (.ref fo),some (.int (szN κ c:Int)),some (.ref da),z9,none,z11]/\Off as Hc Hi/\∀(j:Nat) a,as[j]?=some a->∃xs:List V,xs.length=szN κ c/\Hi a=some (.lst (if j<i then xs++[.non] else xs))) ⟨_,rfl,λ_ _ _ q=>q,λj a ha=>?_⟩ ?_ ?_ ?_
  · obtain ⟨f,hf⟩:=Zaw ha la
    obtain ⟨xs,hx,fl⟩:=rac.2 j a f ha hf
    refine ⟨xs,by rw[fl.1]; exact wT f (Q9 hf),?_⟩
    rw[if_neg ⋯]; exact hx
  · rintro i σ Hi-⟨z11,rfl,O,-⟩
    exact SqL.of (O _ _ nDas hDc)
  · rintro i x σ Hi hx ⟨z11,rfl,O,rows⟩
    obtain ⟨a,ha,rfl⟩:=Zax hx
    obtain ⟨xs,lx,hxs⟩:=rows i a ha
    rw[if_neg ⋯] at hxs
    refine ⟨_,rfl,.inl ⟨rfl,_,SqL.of hxs⟩,a,xs,.non,rfl,rfl,hxs,Q5 (show xs.length<1000 by omega) ∅,?_⟩
    refine ⟨_,rfl,λb o nb q=>?_,λj b hb=>?_⟩
    · rw[Zas (λz=>nb (by rw[z]; exact Q9 ha))]
      exact O b o nb q
    · by_cases e:j=i
      · subst e
        rw[ha] at hb
        cases hb
        exact ⟨xs,lx,by rw[Zaf,if_pos ⋯]⟩
      · obtain ⟨ys,ly,hys⟩:=rows j b hb
        have nba:b≠a:=λz=>e (Zfi nd2 (by rw[<-z]; exact hb) ha)
        refine ⟨ys,ly,?_⟩
        rw[Zas nba,hys]
        congr 2
        by_cases h1:j<i
        · rw[if_pos h1,if_pos ⋯]
        · rw[if_neg h1,if_neg ⋯]
  rintro σ Hd ⟨z11',rfl,O,rows⟩
  rw[Q1] at rows
  have S7d:Same H7 Hd:=Off.same O (S8.trans (S810.trans Sc)) fd.fr
  have S5d:Same H5 Hd:=S6.trans S7d
  have hDd:=O _ _ nDas hDc
  have rowd:∀(j:Nat) a,as[j]?=some a->∃xs:List V,xs.length=szN κ c+1/\Hd a=some (.lst xs):=λj a ha=>by
    obtain ⟨xs,lx,hx⟩:=rows j a ha
    rw[if_pos (Qw.mp ha).1] at hx
    exact ⟨_,by rw[Qd,lx]; rfl,hx⟩
  obtain ⟨r1,r2⟩:=same Hd S5d
  refine ⟨_,rfl,_,rfl,_,r1.mono ∅,r2.mono ∅,_,rfl,ZfG ?_⟩
  refine ⟨_,rfl,fo,rfl,⟨_,SqL.of hDd⟩,?_⟩
  refine ZaG (K:=K) (a:=fo) (xs:=as.map V.ref) (λi ys He=>He=Hd/\ys=List.replicate i (.int ((szN κ c:Int)+1))) (by rw[Q1]; omega) ⟨rfl,rfl⟩ (λi ys He _ q=>by rw[q.1]; exact SqL.of hDd) ?_ ?_
  · rintro i x ys He hx hl ⟨rfl,rfl⟩
    obtain ⟨a,ha,rfl⟩:=Zax hx
    obtain ⟨xs,lx,hxs⟩:=rowd i a ha
    refine ⟨_,rfl,a,_,rfl,.inl (SqL.of hxs),rfl,?_⟩
    rw[lx,List.replicate_succ']
    rfl
  rintro ys Hi hl ⟨rfl,rfl⟩ q1 nq1
  rw[Q1,la,lT]
  have Sq1:=Zah nq1 (.lst (List.replicate (szN κ c) (.int ((szN κ c:Int)+1))))
  have qq1:=Zaf (H:=Hi) (a:=q1) (o:=.lst (List.replicate (szN κ c) (.int ((szN κ c:Int)+1))))
  generalize upd Hi q1 (.lst (List.replicate (szN κ c) (.int ((szN κ c:Int)+1))))=Hj at *
  have hKj:=Sq1 _ _ (S5d _ _ hT5)
  refine ⟨_,rfl,tb,rfl,⟨_,SqL.of hKj⟩,?_⟩
  refine ZaG (K:=K) (a:=tb) (xs:=rs.map V.ref) (λi ys He=>He=Hj/\ys=List.replicate i (.int ((szN κ c:Int)+1))) (by rw[Q1]; omega) ⟨rfl,rfl⟩ (λi ys He _ q=>by rw[q.1]; exact SqL.of hKj) ?_ ?_
  · rintro i x ys He hx hl ⟨rfl,rfl⟩
    obtain ⟨a,ha,rfl⟩:=Zax hx
    refine ⟨_,rfl,_,_,rfl,rfl,rfl,?_⟩
    rw[List.replicate_succ']
  rintro ys Hk hl ⟨rfl,rfl⟩ q2 nq2
  rw[Q1,lr,lA]
  have Sq2:=Zah nq2 (.lst (List.replicate (szN κ c) (.int ((szN κ c:Int)+1))))
  have qq2:=Zaf (H:=Hk) (a:=q2) (o:=.lst (List.replicate (szN κ c) (.int ((szN κ c:Int)+1))))
  generalize upd Hk q2 (.lst (List.replicate (szN κ c) (.int ((szN κ c:Int)+1))))=Hl at *
  refine ⟨_,(ZmQ (Sq2 _ _ qq1)).mono ∅,(ZmQ qq2).mono ∅,?_⟩
  exact k _ (S5.trans (S5d.trans (Sq1.trans Sq2)))
end
end My
namespace My
open PySem L2 PyProof.Rows
inductive sp_law (K:PySem.W.Frag) (vs:List V) (H:Hp) (Q:VK) (zE:XK):Prop
  | mk (a:Addr) (ns:List Int) (_:vs=[.ref a]) (_:SqL K H a (ns.map V.int)) (_:ns.length<=63) (_:(∀i∈ns,Bits 1048576 i)) (_:∀H',Q (.bl true) H'):sp_law K vs H Q zE
section
variable{P:Program}{w:World}{K:PySem.W.Frag}{mg:Str->Option Value}{base:Heap}{CF CR:Addr}
theorem sc_law:FnScope ["_law_script", "_law_cells", "_law_prime_here", "_law_kind_here", "_law_at", "_law_table_here"] ["_law_script"] (Zag Znt):=‹2›
theorem ZoQ{f:Addr}{fd:FuncData}(F:Fun K "law" "law" Znt f fd) (T:Nm mg) (h_l_exponent:Has P w K mg base "_law_exponent" 13 ["_law_prime_here", "_law_cell_here"] ZcG) (h_l_prime:Has P w K mg base "_law_prime" 13 ["_law_cell_here"] ZdK) (h_l_kind:Has P w K mg base "_law_kind" 13 ["_law_prime_here"] (ZfD CF CR)) (h_l_table:Has P w K mg base "_law_table" 13 ["_law_prime_here", "_law_cells", "_law_at"] Zdb) (h_l_told:Has P w K mg base "_law_told" 13 ["_law_kind_here", "_law_prime_here", "_law_table_here", "_law_n"] (ZdL CF CR)):FnOk P w K mg base CX0 14 f fd ["_law_script"] (sp_law K):=by
  refine F.ok sc_law (λvs H Q E h=>?_) (λcdv A outer s H vs Q E hr h=>?_)
  · obtain ⟨_,_,rfl,_⟩:=h
    rfl
  obtain ⟨a,ns,rfl,hS,hl,hb,k⟩:=h
  have nd:=sc_law.nd
  refine ⟨_,(Zab (Zak (i:=1) nd rfl (Or.inl rfl) (Zal Zol (ZlB Zm6 (pv 0) Zm3 (Zm4 Zad)) (Zdp (Zaa Zad Zac))))
    (Zab (Zak (i:=2) nd rfl (Or.inl rfl) (Zao h_l_prime hr (by rfl) (Zaa (Zar Zav (pv 1) Zad (λ_ _=>rfl)) Zac)))
    (Zab (Zak (i:=3) nd rfl (Or.inl rfl) (Zao h_l_kind hr (by rfl) (Zaa (pv 2) Zac)))
    (Zab (Zak (i:=4) nd rfl (Or.inl rfl) Zad)
    (Zab (Zb3 PassesOwn.never (Zaq Zca (pv 4) (Zam Zai (by rfl) T.len boot_len (Zaa (pv 1) Zac)) (Zap _)) (Zab (Zak (i:=5) nd rfl (Or.inl rfl) (Zao h_l_table hr (by rfl) (Zaa (pv 2) (Zaa (pv 1) (Zaa (pv 4) Zac)))))
      (Zab (ZaC (ZbR (Zbo (Zao h_l_told hr (by rfl) (Zaa (pv 3) (Zaa (pv 2) (Zaa (pv 5) (Zaa (Zao h_l_exponent hr (by rfl) (Zaa (pv 2) (Zaa (Zar Zav (pv 1) (pv 4) (λ_ _=>rfl)) Zac))) Zac))))))) (Zae (Zaj ZcL)) Zat)
      (Zae (Zak (i:=4) nd rfl (Or.inl rfl) (Zal Za6 (Zal Za6 (pv 4) Zad) (Zal ZaB (Zam Zai (by rfl) T.len boot_len (Zaa (pv 5) Zac)) (Zam Zai (by rfl) T.len boot_len (Zaa (Zar Zav (pv 5) Zad (λ_ _=>rfl)) Zac)))))))))
    (Zae (Zaj ZcL))))))),?_⟩
  refine ⟨_,rfl,63,rfl,a,_,rfl,hS,λp hp=>?_⟩
  refine ⟨(by show 1<=sizeLine; decide),λq hq=>?_⟩
  obtain ⟨cs,ec,l1,l2,bc⟩:∃cs:List Int,ZlC (ns.map V.int) none (some 63)++[.int 0]=cs.map V.int/\1<=cs.length/\cs.length<=64/\∀i∈cs,Bits 1048576 i:=by
    refine ⟨ns.take 63++[0],?_,?_,?_,λi hi=>?_⟩
    · have e:=Zku (ns.map V.int) 63
      rw[<-List.map_take] at e
      rw[Qj]
      exact congrArg (· ++ [V.int 0]) e
    · rw[Qd]; show 1<=_+1; omega
    · rw[Qd,Wp]; show _+1<=64; omega
    · rcases Qf.mp hi with h | h
      · exact hb i (Uo h)
      · rw[Q6.mp h]; exact Qk _
  refine ⟨p,q,_,_,rfl,rfl,by rw[Zas (ZaF Zaf hq)]; exact Zaf,Zaf,?_,λc hc=>?_⟩
  · have z:=congrArg List.length ec
    rw[Qd,Q1] at z
    have z2:(65:Nat)<=sizeLine:=by decide
    show _+1<=sizeLine
    have z3:(ZlC (ns.map V.int) none (some 63)).length+1=cs.length:=z
    omega
  rw[ec]
  generalize hH0:upd (upd (upd H p (.lst (ZlC (ns.map V.int) none (some 63)))) q (.lst [.int 0])) c (.lst (cs.map V.int))=H0
  have hc0:H0 c=some (.lst (cs.map V.int)):=by rw[<-hH0]; exact Zaf
  have ce:Ce H0 c cs:=⟨hc0,l1,⋯,bc⟩
  have c0:atI (cs.map V.int) 0=some (.int cs[0]):=Zhd (i:=0) ⋯
  refine ⟨_,rfl,_,_,_,_,rfl,rfl,SqL.of hc0,c0,_,rfl,λH1 pr S1 pk=>?_⟩
  refine ⟨_,rfl,pr,rfl,pk,λH2 kk S2 kd2=>?_⟩
  have ce2:=(ce.same S1).same S2
  obtain ⟨κ,rfl,kx2⟩:=Zov kd2
  refine ⟨λmm σ H'=>∃(t:Nat) (z5:Option V),mm=cs.length-t/\σ=[some (.ref a),some (.ref c),some (.int κ.P),some (.ref kk),some (.int (t:Int)),z5]/\Same H2 H',⟨_,0,_,rfl,rfl,Same.refl _⟩,?_⟩
  rintro mm σ H3 ⟨t,z5,rfl,rfl,S3⟩
  have ce3:=ce2.same S3
  refine ⟨_,rfl,_,rfl,c,_,rfl,.inl (SqL.of ce3.l),_,_,rfl,rfl,_,rfl,?_⟩
  rw[Q1]
  refine Za3 (λz=>?_) (λz=>k H3)
  have ht:t<cs.length:=by have:(t:Int)<(cs.length:Int):=z; omega
  refine ⟨_,λ_ _ h=>h,?_⟩
  refine ⟨_,rfl,_,rfl,_,rfl,κ,c,cs,t,rfl,ce3,ht,λH4' tb rs R m S4' hT' rx' lR wd m1 m8 qR=>?_⟩
  have lr:=rx'.1
  obtain ⟨n1,n2,n7'⟩:=Zd1 κ cs[t]
  have n7:R.length<=7:=by omega
  have n1:1<=R.length:=by omega
  have ce4:=ce3.same S4'
  refine ⟨_,rfl,_,rfl,_,rfl,_,rfl,_,rfl,_,rfl,c,_,_,_,rfl,rfl,SqL.of ce4.l,Zhd ht,κ,cs[t],rfl,ce4.b _ (Qe ht),λH4 Se=>?_⟩
  have hT:=Se _ _ hT'
  have rx:=rx'.same Se
  have S4:=S4'.trans Se
  refine ⟨κ,kk,tb,rs,R,m,cs[t],rfl,(kx2.same S3).same S4,hT,rx,lR,wd,m1,m8,qR,λH5 S5=>⟨_,rfl,ZeF ?_⟩⟩
  obtain ⟨a0,g0⟩:∃a0,rs[0]?=some a0:=⟨rs[0]'⋯,Q2 ⋯⟩
  obtain ⟨f0,e0⟩:=Zaw g0 lr
  obtain ⟨xs0,hx0,al0⟩:=rx.2 0 a0 f0 g0 e0
  have lx0:xs0.length=m:=by rw[al0.1]; exact wd f0 (Q9 e0)
  refine ⟨_,rfl,_,_,rfl,rfl,_,rfl,tb,_,rfl,.inl (SqL.of (S5 _ _ hT)),_,rfl,tb,_,0,_,rfl,rfl,SqL.of (S5 _ _ hT),Zbq (i:=0) g0,a0,_,rfl,.inl (SqL.of (S5 _ _ hx0)),_,_,rfl,rfl,?_,_,_,rfl,rfl,?_⟩
  · rw[lx0]; exact .of_right (intBits_le_64 ⋯ ⋯)
  · rw[Q1,lr,lx0]
    have nm:1<=R.length*m:=Wa n1 m1
    have e:(t:Int)+1+(R.length:Int)*(m:Int)=((t+1+R.length*m:Nat):Int):=by
      rw[U0,U0,Wl]; rfl
    show ZfZ 4 (V.int ((t:Int)+1+(R.length:Int)*(m:Int))) _ H5 _
    rw[e]
    exact ⟨_,(by show cs.length-(t+1+R.length*m)<cs.length-t; omega),t+1+R.length*m,_,rfl,rfl,S3.trans (S4.trans S5)⟩
end
end My
namespace PySem.W.Fast
def tw3025492094609467392:=0
def tw17358452040267537536:=0
def tw17883680592211583136:=0
def tw15543374052342263968:=0
def tw11786009185691588800:=0
def tw3439542786997337312:=0
def tw13999903460724402432:=0
def tw11789192730479194368:=0
def tw7587491080674345280:=0
def tw8424353739843380704:=0
def tw1242049241509877280:=0
def tw6786756068345971296:=0
def tw4355983790011604576:=0
def tw15881463379837655680:=0
def tw7067635086251401856:=0
def tw7966487796578395904:=0
def tw4516351702073558784:=0
def tw3372858789376348928:=0
def tw12288580164530236160:=0
def tw3268415526106680192:=0
def tw6689826483221698464:=0
def tw13553145634893441952:=0
def tw8981341136630295553:=0
def tw15034647158429242369:=0
def tw8360813187700152321:=0
def tw11785648969126764545:=0
def tw1359380834834000961:=0
def tw6373945081730452577:=0
def tw1660386869168157793:=0
def tw12360051138929153153:=0
def tw14465439401842180257:=0
def tw5694977835832287457:=0
def tw14507517741481730305:=0
def tw1030382464187049217:=0
def tw8637696509865684225:=0
def tw16070139123728273729:=0
def tw15105577248933149025:=0
def tw10952969412404468065:=0
def tw2195203320929417601:=0
def tw2226071500548858273:=0
def tw9679750945117221409:=0
def tw5078193550323397249:=0
def tw3730657549837852289:=0
def tw14473212448706402977:=0
def tw11784629770940193441:=0
def tw14260726399127990945:=0
def tw3960950557673309857:=0
def tw6216952022289731297:=0
def tw18396867661919285985:=0
def tw12079996689447600897:=0
def tw14370886817730397057:=0
def tw18228061712411624321:=0
def tw1134640986199551873:=0
def tw1725340387091547041:=0
def tw8720776120894770113:=0
def tw10503843552050993089:=0
def tw15408434219969899457:=0
def tw7244907163682959297:=0
def tw8480388098223049730:=0
def tw9457035346941408354:=0
def tw17272930565200176258:=0
def tw9282822366142548194:=0
def tw1868740772822238530:=0
def tw7628999804871683426:=0
def tw12466991617759393122:=0
def tw10580246571963911554:=0
def tw8569617929937333698:=0
def tw2616074825518281154:=0
def tw11271520129350455778:=0
def tw5283387840041485826:=0
def tw8924875848307183106:=0
def tw15121927855515511330:=0
def tw9031054137420440162:=0
def tw2286695955091923586:=0
def tw1326768789608093314:=0
def tw17144488278747965058:=0
def tw14422262002514950818:=0
def tw10184944210358043330:=0
def tw4295931087640041186:=0
def tw12847573031809058594:=0
def tw11568889993150576450:=0
def tw4406092023776294818:=0
def tw9156530068379239427:=0
def tw17056766043327629347:=0
def tw4133428110976200803:=0
def tw4529489579860710531:=0
def tw2206430100495064323:=0
def tw6754677214191827459:=0
def tw6344405325044622883:=0
def tw1986989063191263779:=0
def tw4455231480616145571:=0
def tw14655262972155287203:=0
def tw15197285061940964003:=0
def tw12680046883702111939:=0
def tw5984580840346988259:=0
def tw11269939604666035075:=0
def tw2107698526345640835:=0
def tw11404005476892602243:=0
def tw6023175069434950563:=0
def tw6195271746411339715:=0
def tw16252412523335120900:=0
def tw12483427941741342852:=0
def tw3805363246371332228:=0
def tw798734546260022436:=0
def tw14899393399135740100:=0
def tw398098261310808356:=0
def tw13957880275216877860:=0
def tw6560276474381789540:=0
def tw7502023094978375044:=0
def tw7785827034111996292:=0
def tw11177690945897849252:=0
def tw12448643822161491364:=0
def tw9842672461127669252:=0
def tw8331602396863367716:=0
def tw9836227692871964196:=0
def tw6727030848372381348:=0
def tw12407155439913573092:=0
def tw829509028240659236:=0
def tw4319351702083482404:=0
def tw11403154575686141796:=0
def tw15393088978409969572:=0
def tw8287460376394193925:=0
def tw3759936490834129957:=0
def tw1478883063481699461:=0
def tw14510470245245022341:=0
def tw6696597931480789253:=0
def tw14499886508759281925:=0
def tw12152020582749260101:=0
def tw1078146549501351397:=0
def tw6657256452832241157:=0
def tw3420752557971669605:=0
def tw3896105301371818661:=0
def tw16047407382974406469:=0
def tw5952665140499171205:=0
def tw7996981556357424005:=0
def tw1254952341864744901:=0
def tw1895996257914477541:=0
def tw6231652273603375077:=0
def tw5988060958264660998:=0
def tw7221810432117987366:=0
def tw587445023011993670:=0
def tw4577154095381244998:=0
def tw4646481859104539782:=0
def tw10281078060485174630:=0
def tw12633860031535459718:=0
def tw7020401755795876230:=0
def tw2516293628067081606:=0
def tw2847394113650216358:=0
def tw11939810036189917638:=0
def tw18119836555069731302:=0
def tw13426935165285914150:=0
def tw7176572939049428518:=0
def tw1690453498163294758:=0
def tw7544962444390584902:=0
def tw17096141328075909702:=0
def tw2731934799846456934:=0
def tw8100782736204031590:=0
def tw16691204075401256646:=0
def tw12902745341858114246:=0
def tw16926487438802679494:=0
def tw4462431989941367558:=0
def tw9179277905246312230:=0
def tw8169046930809700166:=0
def tw16815770778603920262:=0
def tw16952094761634063367:=0
def tw8085881058289635399:=0
def tw10919863771794388071:=0
def tw6637524184068324487:=0
def tw9696651750945818759:=0
def tw184417018015042759:=0
def tw14394942295299808455:=0
def tw8794835527861540103:=0
def tw10395920715802177831:=0
def tw4991799689732075847:=0
def tw12643754514513319239:=0
def tw2713493285249576263:=0
def tw4017371602858285447:=0
def tw14028218388828681607:=0
def tw9183191130293523911:=0
def tw5829184044157952551:=0
def tw4172988972563932743:=0
def tw1068230744130878087:=0
def tw16118683056504330919:=0
def tw512211952542241479:=0
def tw11837522111190776583:=0
def tw17125854681920489287:=0
def tw13250260971013830503:=0
def tw6778231180918826919:=0
def tw2921559394087484327:=0
def tw17904994411828696104:=0
def tw11243395927426115656:=0
def tw1150969336387990600:=0
def tw11898383317665555560:=0
def tw1656147294610124968:=0
def tw4283278360207346920:=0
def tw7699543481708806408:=0
def tw11556082414912285000:=0
def tw16848663806902969768:=0
def tw9907388549060970952:=0
def tw17386891111227196936:=0
def tw1986205529385370248:=0
def tw617022842210249416:=0
def tw3897983232451801800:=0
def tw2976501589650852584:=0
def tw3618352851549573864:=0
def tw13003651262889512712:=0
def tw16503811793919748936:=0
def tw9959584348782008168:=0
def tw9952295814688112520:=0
def tw4366496835345737608:=0
def tw14792943202685681576:=0
def tw11569142296594286568:=0
def tw1090310329006470153:=0
def tw2362435443122025545:=0
def tw15638104025689142345:=0
def tw11133138272756604009:=0
def tw15431592388925589641:=0
def tw11414508882659044617:=0
def tw8572043432154068233:=0
def tw14331717448025431337:=0
def tw3921587096842863977:=0
def tw15759943415913428361:=0
def tw8223928672153335177:=0
def tw15438101655377188265:=0
def tw7303480112132539817:=0
def tw7406202219189362153:=0
def tw17546328006835801609:=0
def tw3045393241496436233:=0
def tw11597668827164442249:=0
def tw13254184372878016137:=0
def tw17121087689411748553:=0
def tw5182016643029149481:=0
def tw779910284219049769:=0
def tw3230534738647482153:=0
def tw8805117808994384713:=0
def tw3639371032838185801:=0
def tw12131697659731799913:=0
def tw11017792680971509641:=0
def tw4801012127677653929:=0
def tw7904397374067440617:=0
def tw7714330115825160202:=0
def tw12511681901120942122:=0
def tw1495443297982761066:=0
def tw12929577750251945066:=0
def tw8583086630248735914:=0
def tw11991748218260823338:=0
def tw3068267563954176330:=0
def tw6431191380435016042:=0
def tw10298540260047522186:=0
def tw9304515416050275786:=0
def tw9721164392749491690:=0
def tw17825978816784289354:=0
def tw11790728884181784202:=0
def tw14857016586658319018:=0
def tw4957097174727644842:=0
def tw572258650149100234:=0
def tw7111484337164954346:=0
def tw10147078508334213962:=0
def tw14439056725183045450:=0
def tw5841074727571242890:=0
def tw11532385182499329930:=0
def tw13753175489567674250:=0
def tw1627980523891675050:=0
def tw2350288538932540330:=0
def tw16573882895355698122:=0
def tw14837707677176303659:=0
def tw15518775991840483371:=0
def tw17961848489786860651:=0
def tw11895439679297245323:=0
def tw15935180922821302411:=0
def tw15172271561314509067:=0
def tw4203105803730182443:=0
def tw3939167650548751691:=0
def tw6221937828917199275:=0
def tw13370907629220107691:=0
def tw4211267490589741547:=0
def tw3944562987280503307:=0
def tw12971844021168511499:=0
def tw13997671510438813195:=0
def tw6619278490523877899:=0
def tw12459467481951218219:=0
def tw1613879796372759147:=0
def tw7081535661931172491:=0
def tw6722620444349406859:=0
def tw15648420360532773579:=0
def tw5428009221088552651:=0
def tw12934893424230946667:=0
def tw1864758617788341131:=0
def tw14226803604458449867:=0
def tw4773521894083472492:=0
def tw13407846933515619436:=0
def tw9938370765952456844:=0
def tw8507141781350254828:=0
def tw13074894776893890828:=0
def tw17813289413769269516:=0
def tw14823810419116672268:=0
def tw6949607116797436300:=0
def tw16660156014366618060:=0
def tw16409091415536178636:=0
def tw7086976594970614252:=0
def tw15699374620151527916:=0
def tw11529441672368377324:=0
def tw3061406458135105068:=0
def tw6201050573453555308:=0
def tw13518812564673301100:=0
def tw14063223230433868460:=0
def tw4614791242220135116:=0
def tw9707311252477276908:=0
def tw11273366066747964172:=0
def tw5188224527675590412:=0
def tw14742342381353387820:=0
def tw7884482101488256844:=0
def tw14295347378709026636:=0
def tw3922448820629336908:=0
def tw9285263883882231628:=0
def tw6094471789542149004:=0
def tw1415753683170554764:=0
def tw16485476832666359724:=0
def tw16054157079276099532:=0
def tw9829903692825412556:=0
def tw12946270024358946796:=0
def tw10525527903874059277:=0
def tw13204839187620611149:=0
def tw3054040329618669677:=0
def tw7279518997704094925:=0
def tw1827384840876225773:=0
def tw7409873125991714093:=0
def tw10216046954685759789:=0
def tw11657133234532199757:=0
def tw2862319117766719917:=0
def tw10673511828477773261:=0
def tw10278974558557022669:=0
def tw9880027512412637677:=0
def tw18345561546280524269:=0
def tw12123343184735629805:=0
def tw16680289282693004781:=0
def tw11964892562070326797:=0
def tw4033508703452299789:=0
def tw13426262773804047949:=0
def tw1408360882441314989:=0
def tw6542238088186291885:=0
def tw4032122935924813485:=0
def tw121158935157029581:=0
def tw17330700815747912493:=0
def tw15015457393200663405:=0
def tw6299034610282683245:=0
def tw16142450397655850861:=0
def tw13330358362457255917:=0
def tw11937434676912508909:=0
def tw3811090747639256078:=0
def tw7608749619473050638:=0
def tw5574251186705345678:=0
def tw7508140264424594574:=0
def tw13364140456894849166:=0
def tw740483183227099310:=0
def tw15571367074758354190:=0
def tw12328545007966590254:=0
def tw15941666328044902702:=0
def tw12822737951021451598:=0
def tw6311973702859600206:=0
def tw9793403166509245838:=0
def tw9946112012607612302:=0
def tw8915084830490651022:=0
def tw13008013301353478606:=0
def tw8138797393568685550:=0
def tw5464873196070863374:=0
def tw8147509792690621966:=0
def tw5887022025170286094:=0
def tw11821315573278150190:=0
def tw696951460965039822:=0
def tw13431253165917225710:=0
def tw2361920901686872814:=0
def tw9912779347861820174:=0
def tw17777293396592003886:=0
def tw552032468823678766:=0
def tw4220546462798400302:=0
def tw18395914358901077902:=0
def tw16301991307816765390:=0
def tw8022079062695883791:=0
def tw7484894077486777391:=0
def tw3988777271793815631:=0
def tw15207445871726812271:=0
def tw2638952459868347631:=0
def tw5450256333283463535:=0
def tw3294430447303064943:=0
def tw12482983739978127855:=0
def tw4294088367898495503:=0
def tw16355552846850840111:=0
def tw8711990648408626735:=0
def tw570800326520608335:=0
def tw8231364030773614351:=0
def tw3226446924799827791:=0
def tw17385045297876749167:=0
def tw5559568631353957295:=0
def tw7720564601926413263:=0
def tw7937534256779855823:=0
def tw16663981189895004208:=0
def tw10291385320453473360:=0
def tw1731878032986995792:=0
def tw1662932490845982864:=0
def tw4067380812208279760:=0
def tw14403945234497638640:=0
def tw7403646569009721584:=0
def tw8162346015546627376:=0
def tw11455225625800889680:=0
def tw7034439455229018512:=0
def tw9943074697889459632:=0
def tw1130682402073793072:=0
def tw639921016225028720:=0
def tw14839510533148694192:=0
def tw9219031196342002384:=0
def tw15011826008589433584:=0
def tw10045432494097471216:=0
def tw3326108422812883728:=0
def tw7325748537283015472:=0
def tw6803377228436943696:=0
def tw3894952652616336240:=0
def tw17054116315375837040:=0
def tw11743659378078677968:=0
def tw7400377431850212336:=0
def tw2141740216078910481:=0
def tw15411926360929399825:=0
def tw11330372668720711793:=0
def tw15869072578715908209:=0
def tw3248564316390593681:=0
def tw2303426085499465873:=0
def tw10298525899699170481:=0
def tw664809234918372529:=0
def tw11906987178164411601:=0
def tw3204850802638354705:=0
def tw5531102302613708145:=0
def tw6211773177513138609:=0
def tw143028384772395569:=0
def tw6403740836310493809:=0
def tw12096660285633535665:=0
def tw13633548187023398673:=0
def tw11298395599744293649:=0
def tw204387097470556945:=0
def tw9924332391979551537:=0
def tw16071110936133010289:=0
def tw5347990282216477553:=0
def tw6197792945681396689:=0
def tw9369567757245422545:=0
def tw8458000685238598674:=0
def tw563286257566627890:=0
def tw18064727684858510450:=0
def tw1253414770415326386:=0
def tw18296650306907142322:=0
def tw2784202509448684754:=0
def tw8071059821746601234:=0
def tw17506429556520765714:=0
def tw12818973298331638034:=0
def tw2694660564424297778:=0
def tw6141954706347186482:=0
def tw15643008508546035122:=0
def tw9863137266966227410:=0
def tw952997615481892370:=0
def tw7614556785895509554:=0
def tw3548386787057532466:=0
def tw6894073771582813810:=0
def tw17750786167269266066:=0
def tw16486027290305627890:=0
def tw11700092947048242962:=0
def tw14597790463723110194:=0
def tw12469026271934322514:=0
def tw7052484971276366706:=0
def tw12927797729332806578:=0
def tw1883163734951770066:=0
def tw13082428539498739666:=0
def tw16933462717369012275:=0
def tw5219350387780231251:=0
def tw18137715016747840659:=0
def tw10053635111906712979:=0
def tw5213861722039592339:=0
def tw10586205674148304339:=0
def tw15840090157420804595:=0
def tw15235195250485860883:=0
def tw7285532852084196883:=0
def tw12567783943359578675:=0
def tw4625074572839469651:=0
def tw15825956350737952339:=0
def tw9299001124695524979:=0
def tw5973893678185498227:=0
def tw15031255754401244819:=0
def tw8483945247388834483:=0
def tw2794061544874665683:=0
def tw3806397237194212083:=0
def tw9942905786407540467:=0
def tw18258473839016810259:=0
def tw13332144554361956147:=0
def tw10215851516828922675:=0
def tw16637981728345103187:=0
def tw10652009597226057587:=0
def tw14008398445075746675:=0
def tw12342504256500071347:=0
def tw8282257288849744851:=0
def tw16577038252839413747:=0
def tw17749885653273233428:=0
def tw12870121397812280372:=0
def tw11746314031932585044:=0
def tw4926676986762591316:=0
def tw5445896021919099124:=0
def tw333128479402925332:=0
def tw5452512365693127988:=0
def tw3007205110047479220:=0
def tw5110196320256970228:=0
def tw5819040480815910452:=0
def tw15320703106836554452:=0
def tw7473074345512285940:=0
def tw17288570946967553812:=0
def tw14296758039826259764:=0
def tw8046505579636718388:=0
def tw1661765564466016084:=0
def tw4672947324287839060:=0
def tw16114971283669584884:=0
def tw2354533265669008469:=0
def tw7886817905753892981:=0
def tw14123258429847928949:=0
def tw3679877955778707669:=0
def tw12618875508099678421:=0
def tw15194153155923632373:=0
def tw4522812015507958005:=0
def tw15477693761790785877:=0
def tw17226361733654420885:=0
def tw14187906612521322933:=0
def tw17438785767519776181:=0
def tw10105252900604591541:=0
def tw18030481414868806133:=0
def tw14446568184901792277:=0
def tw10507303468953983541:=0
def tw5757996863019084405:=0
def tw6434647127814570677:=0
def tw15932993061354902325:=0
def tw16714892312829244213:=0
def tw4950526937215089461:=0
def tw13841401960363374485:=0
def tw5598209261609802709:=0
def tw4711456987455844341:=0
def tw3351491197184672854:=0
def tw3665034189071849590:=0
def tw11266904532354530422:=0
def tw16285617766130885974:=0
def tw9966489312579229046:=0
def tw17656215595130508918:=0
def tw3843712991470051958:=0
def tw8800914978730352342:=0
def tw9533635723874864854:=0
def tw1563217179886379862:=0
def tw18047087642356913046:=0
def tw12243284990143708054:=0
def tw13205817981032014774:=0
def tw17659557846642742198:=0
def tw14799540253132572630:=0
def tw2881332502423637079:=0
def tw12407060552301808727:=0
def tw9517718461068886199:=0
def tw10941645149802873079:=0
def tw634905430981219607:=0
def tw4354457418791881015:=0
def tw585694543118214455:=0
def tw9089759566512987479:=0
def tw11008760665560498519:=0
def tw9398723584525056375:=0
def tw16533728622046867831:=0
def tw6925864925343001015:=0
def tw16493865148454241751:=0
def tw15970171182830163415:=0
def tw10424875857051929143:=0
def tw8793528381166238327:=0
def tw1121208585292783319:=0
def tw3597778592551510775:=0
def tw76386035236960023:=0
def tw10373856796645369623:=0
def tw16607834781802833751:=0
def tw2504128511682857815:=0
def tw7635864860575672183:=0
def tw3925645354804615063:=0
def tw12323391097296946071:=0
def tw11216435440650006552:=0
def tw13405410944370717720:=0
def tw3525631310966293560:=0
def tw17957698895144016952:=0
def tw2682828496315964504:=0
def tw5233675060323016856:=0
def tw11622311659950531736:=0
def tw5382261052741660888:=0
def tw9020327019605269752:=0
def tw18340661543622070520:=0
def tw12508300061718243640:=0
def tw115315038832711992:=0
def tw14831051592467961208:=0
def tw837852361488504248:=0
def tw3499614647629747704:=0
def tw15247181971682075160:=0
def tw15202576556854676024:=0
def tw10814970983466274360:=0
def tw13536781083836329528:=0
def tw15563621084112399928:=0
def tw2117424489755722360:=0
def tw4596477450675245720:=0
def tw13799548312412675736:=0
def tw6790588735966967480:=0
def tw349139082103982808:=0
def tw13662582706013185784:=0
def tw13805400607141780280:=0
def tw1275382375954731928:=0
def tw9013035058506266520:=0
def tw17875007351285405721:=0
def tw4638915056812336185:=0
def tw18253411331847568473:=0
def tw3644978135637722233:=0
def tw14427549349007814873:=0
def tw9925004068577061113:=0
def tw15528915477170133273:=0
def tw11217181160419191065:=0
def tw16232452089332111673:=0
def tw12718504535033363833:=0
def tw17301810605344734617:=0
def tw12260711906189964729:=0
def tw7539139252052016601:=0
def tw14219732534507952601:=0
def tw723090087347678745:=0
def tw15503716309289267833:=0
def tw4142959895689927353:=0
def tw17460646144495374009:=0
def tw11958195385794148057:=0
def tw7024739171246390009:=0
def tw6650632439873025785:=0
def tw12607349611910558489:=0
def tw5132895288578136889:=0
def tw9355159427775508345:=0
def tw15044805207761758105:=0
def tw13049089274122186745:=0
def tw6437347909984242746:=0
def tw10235224793909965914:=0
def tw17306494041605554330:=0
def tw117495589622086810:=0
def tw14233000492173952218:=0
def tw1134682872085722330:=0
def tw3226398655325278618:=0
def tw14528846935687185946:=0
def tw17261195618410737306:=0
def tw3929916421852461818:=0
def tw9595579869798686458:=0
def tw12473833173606998842:=0
def tw5924391835098530682:=0
def tw10920051315858980730:=0
def tw7435989619756280730:=0
def tw10348264545526368186:=0
def tw16416493001721198554:=0
def tw8518356650774244571:=0
def tw600096350586493179:=0
def tw15460927757790841147:=0
def tw11631081029898436987:=0
def tw8132379973047429531:=0
def tw2440691986727606683:=0
def tw13633194045898972603:=0
def tw6040036787522370075:=0
def tw5601129143937237595:=0
def tw16500202606983001723:=0
def tw3836612577201806011:=0
def tw17586127407416109755:=0
def tw5357911075532804827:=0
def tw14765953462442781499:=0
def tw4272733878746768283:=0
def tw6335107916762546171:=0
def tw482901506947897372:=0
def tw12484308306547518492:=0
def tw5636160903078526076:=0
def tw6925748092632536220:=0
def tw11608239113263823036:=0
def tw10382819592487188668:=0
def tw7199236063719943356:=0
def tw5567324495980735708:=0
def tw7339069832437873916:=0
def tw5449851023074412796:=0
def tw8004188426099608828:=0
def tw1177197776445267228:=0
def tw12694187472560326972:=0
def tw15657930595817707868:=0
def tw14902221670733783548:=0
def tw14271290205646704124:=0
def tw6837229212177322492:=0
def tw14839146336433526268:=0
def tw5774570221896337948:=0
def tw12100285086927454780:=0
def tw6281819608997626460:=0
def tw5306611046643885660:=0
def tw6339440339874778748:=0
def tw3007189347185738588:=0
def tw7868396503984642940:=0
def tw11119201012988097404:=0
def tw588802468576828316:=0
def tw614795321534656412:=0
def tw2548873209660105628:=0
def tw8459959784961081244:=0
def tw2800837447158895612:=0
def tw8053756453889456157:=0
def tw18138271798329540701:=0
def tw6033128423263119453:=0
def tw4733438094529856669:=0
def tw8132923999496969437:=0
def tw5531422938222693629:=0
def tw8929172840011749661:=0
def tw12323122260076801469:=0
def tw1762102991080497629:=0
def tw8038952386322218557:=0
def tw3586533119347426909:=0
def tw5529458055407413853:=0
def tw1348436096913824381:=0
def tw2770831356294068925:=0
def tw3236347822590038877:=0
def tw13045778206585417693:=0
def tw4071953559379792861:=0
def tw9255885891685218334:=0
def tw8878362933468208254:=0
def tw12569411917680241822:=0
def tw6975084099417048254:=0
def tw11138776821347008734:=0
def tw5019210974367416574:=0
def tw9751122549834133758:=0
def tw17192474220592158078:=0
def tw730087873331733950:=0
def tw1521181552780761534:=0
def tw11816735947271849438:=0
def tw13705127463774079454:=0
def tw6887420959878575582:=0
def tw2227896422288266750:=0
def tw14098251295938685438:=0
def tw11912688752921268734:=0
def tw8884896205094254142:=0
def tw9056214648813711966:=0
def tw678425913220274878:=0
def tw2800667516274343774:=0
def tw1228112527993903998:=0
def tw6794985315143588798:=0
def tw2823751023191416766:=0
def tw4684890156185064446:=0
def tw15503202111914196990:=0
def tw1824961016941234207:=0
def tw17172155320746247199:=0
def tw238490500264040543:=0
def tw12980631464707158111:=0
def tw4748753833005551775:=0
def tw5478141925473279135:=0
def tw4681472870704709855:=0
def tw12220542777269203167:=0
def tw4346732114066183487:=0
def tw11824936276172905791:=0
def tw18341387589261977983:=0
def tw14077361647053247903:=0
def tw11159809982203390399:=0
def tw3444180516750391839:=0
def tw14974541895858810399:=0
def tw9709944094075249247:=0
def tw18263158301449443935:=0
def tw15411168967501048511:=0
def tw1087647717328462559:=0
def tw2314401549718548223:=0
def tw15658501953341412223:=0
def tw211028138619734975:=0
def tw7749954881923997782:=0
end PySem.W.Fast
namespace My
open PySem L2 PyProof.Rows
structure Defs (K:PySem.W.Frag) (mg:Str->Option Value) (CF CR CE cK cN cF cT cI cX cM cR:Addr):Prop where
  T:Nm mg
  kd:Kd K mg CF CR
  R:Rf K mg CE cK cN cF cT cI cX cM cR
  Z:Rz K mg "NoFit" CE cF [cK,cN,cT,cI,cX,cM,cR]
  I:∃(f:Addr) (fd:FuncData),Fun K "__init__" "NoInverse.__init__" Zay f fd/\RzI K mg CE cI f [cK,cN,cT,cF,cX,cM,cR]
  xn:ExcC K mg "NoNumber" cN
  xt:ExcC K mg "NoTurn" cT
  nz:mg "zip" = none
  nsu:mg "sum" = none
  d1:Here K mg "divisor" Ze7
  d2:Here K mg "is_whole" Zd5
  d3:Here K mg "is_prime" Zd6
  d4:Here K mg "shares" Zf9
  d5:Here K mg "less_times" ZcT
  c1:Here K mg "scaled_row" ZcS
  c2:Here K mg "plus_row" Zd4
  c3:Here K mg "make_turn" ZdA
  c4:Here K mg "is_idle" Ze9
  c5:Here K mg "take" Zkk
  c6:Here K mg "take_bottoms" Zcc
  c7:Here K mg "first_filled" Zcd
  c8:Here K mg "empty_column" Zce
  c9:Here K mg "emptied" Zfa
  c10:Here K mg "steps" ZhN
  c11:Here K mg "is_place" Zd7
  c12:Here K mg "is_turn" Ze8
  c13:Here K mg "done" Zkj
  c14:Here K mg "unit_row" Zd3
  c15:Here K mg "unit" Zki
  c16:Here K mg "column_at" Zdy
  c17:Here K mg "turned" Zf8
  c18:Here K mg "scaled" ZeI
  c19:Here K mg "sums_with" Zdz
  c20:Here K mg "times_table" Zcu
  c21:Here K mg "evenly_freed" Zcb
  c22:Here K mg "power_parts" Zcv
  c23:Here K mg "power" Zga
  c24:Here K mg "is_square" Zdx
  c25:Here K mg "need_square" Zct
  c26:Here K mg "inverse" Zfb
  l1:Here K mg "_law_whole" Zfc
  l2:Here K mg "_law_divisor" ZdB
  l3:Here K mg "_law_is_prime" ZcW
  l4:Here K mg "_law_prime" Zfd
  l5:Here K mg "_law_kind" Zgb
  l6:Here K mg "_law_lowest" Zd8
  l7:Here K mg "_law_plus" Zgd
  l8:Here K mg "_law_times" Zfe
  l9:Here K mg "_law_cell" Zgc
  l10:Here K mg "_law_made" Zge
  l11:Here K mg "_law_drawn" Zff
  l12:Here K mg "_law_size" Zgf
  l13:Here K mg "_law_exponent" ZcX
  l14:Here K mg "_law_table" Zfg
  l15:Here K mg "_law_product" ZdC
  l16:Here K mg "_law_unit" Zgg
  l17:Here K mg "_law_rank" Zgh
  l18:Here K mg "_law_number" Zd9
  l19:Here K mg "_law_is_table" ZcY
  l20:Here K mg "_law_error" Zfh
  l21:Here K mg "_law_no_fit" Zea
  l22:Here K mg "_law_no_inverse" Zcf
  l23:Here K mg "_law_told" Zgi
  m1:HereM K CF "plus" "Fractions.plus" ZbG
  m2:HereM K CF "minus" "Fractions.minus" Zbr
  m3:HereM K CF "back" "Fractions.back" ZbH
  m4:HereM K CF "times" "Fractions.times" Zbs
  m5:HereM K CF "is_nought" "Fractions.is_nought" Za7
  m6:HereM K CF "common_bottom" "Fractions.common_bottom" ZaT
  m7:HereM K CF "sum_of_products" "Fractions.sum_of_products" ZaJ
  r1:HereM K CR "plus" "Rests.plus" ZcU
  r2:HereM K CR "minus" "Rests.minus" Zcw
  r3:HereM K CR "back" "Rests.back" ZcV
  r4:HereM K CR "times" "Rests.times" Zcx
  r5:HereM K CR "is_nought" "Rests.is_nought" Zbt
  r6:HereM K CR "common_bottom" "Kind.common_bottom" Za9
  r7:HereM K CR "sum_of_products" "Rests.sum_of_products" ZaW
  n1:∃tk,HereD K CF "number" "Fractions.number" ZaO #[.int 1 tk]
  n2:∃tk,HereD K CR "number" "Rests.number" Zbb #[.int 1 tk]
  i1:HereI K CR "Rests.__init__" ZbI
  lw:Here K mg "law" Znt
theorem all_mk{l:PySem.W.OpenLaw}{w:World}{K:PySem.W.Frag}{mg:Str->Option Value}{fa CF CR CE cK cN cF cT cI cX cM cR:Addr}(hfa:mg "law" = some (.ref fa)) (D:Defs K mg CF CR CE cK cN cF cT cI cX cM cR) :
    ∃fd:FuncData,(∀(s:Shared) (v:Value),BindsTo s fd ⟨[v],[]⟩ [("_law_script", v)])/\∀base:Heap,K.In base->base.Ns mainGlobals mg->FnOk l.prog w K mg base CX0 14 fa fd ["_law_script"] (sp_law K):=by
  obtain ⟨f,fd,F,m⟩:=D.lw.ex
  have e:=hfa.symm.trans m
  cases e
  refine ⟨fd,?_,λbase _ _=>?_⟩
  · obtain ⟨oc,od,kV,doc,pm,an,cdv,ct,osl,rfl,lk,hcd⟩:=F.ex
    exact λs v => .of_eq rfl
  · have T:=D.T
    have kd:=D.kd
    obtain ⟨tk0,n1⟩:=D.n1
    obtain ⟨tk1,n2⟩:=D.n2
    have g1:Has l.prog w K mg base "divisor" 1 _ _:=Zjf D.d1 T
    have g2:Has l.prog w K mg base "is_whole" 1 _ _:=ZhP D.d2 T
    have g3:Has l.prog w K mg base "is_prime" 1 _ _:=ZhQ D.d3 T
    have g5:Has l.prog w K mg base "less_times" 1 _ _:=Zgl D.d5
    have g4:=Zkm D.d4 g5
    have ai:=ZlV D.i1 kd.clR kd.nP g2 g3
    have a1:=Zkq D.m1 g1
    have a2:=Zjl D.m2 kd.clF a1
    have a3:HasMX l.prog w K mg base CF "back" 1 _ _ _:=ZlX D.m3 D.xn
    have a4:=Zjj D.m4 g1
    have a5:HasM l.prog w K mg base CF "is_nought" 1 _ _ _:=Zjm D.m5
    have a6:=Zh2 D.m6 g1
    have a7:=ZhT n1 D.xn g1
    have a8:=Zib n1 D.xn g1
    have a9:=Zmm D.m7 kd.clF D.nz a6 a8
    have b1:HasM l.prog w K mg base CR "plus" 1 _ _ _:=ZlW D.r1 kd.clR kd.nP
    have b2:HasM l.prog w K mg base CR "minus" 1 _ _ _:=Zks D.r2 kd.clR kd.nP
    have b7:=ZhU n2 kd.clR kd.nP D.xn g4
    have b8:=Zjk n2 kd.clR kd.nP D.xn g4
    have b3:=ZlY D.r3 kd.clR b8
    have b4:HasM l.prog w K mg base CR "times" 1 _ _ _:=Zkr D.r4 kd.clR kd.nP
    have b5:HasM l.prog w K mg base CR "is_nought" 1 _ _ _:=Zjn D.r5
    have b6:HasM l.prog w K mg base CR "common_bottom" 1 _ _ _:=Zjt D.r6
    have b9:HasM l.prog w K mg base CR "sum_of_products" 3 _ _ _:=Zmn D.r7 kd.clR kd.nP D.nz D.nsu
    have mp:=Zkt kd a1 (b1.mono ∅)
    have mt:=Zjo kd a4 (b4.mono ∅)
    have mz:=Zh1 kd (a5.mono ∅) (b5.mono ∅)
    have mm:=Zjq kd a2 (b2.mono ∅)
    have mn:=ZhY kd (a7.mono ∅) b7
    have mnC:=Zk7 kd (a8.mono ∅) b8
    have mb:=Zky kd (a3.mono ∅) b3
    have mo:=Zh3 kd a6 (b6.mono ∅)
    have md:=Zmo kd a9 b9
    have e1:=ZfK D.c1 mt
    have e2:=Zhg D.c2 D.nz mp
    have e3:=Zhh D.c3 e1 e2
    have e4:=Zjs D.c4 mn mz
    have e5:=ZnD D.c5 e4 e3
    have e6:=Zfs D.c6 T mn mo e5
    have e7:=Zfr D.c7 T mz
    have e8:=Zft D.c8 T mn mm mb e5
    have e9:=Zju D.c9 T mn e6 (e7.mono ∅) (e5.mono ∅) e8
    have e10:=Zl7 D.c10 T mb e9 (e5.mono ∅)
    have e11:=Zh7 D.c11 T g2
    have e12:=Zjw D.c12 mz e11
    have e13:=ZnI D.c13 T D.xt (e12.mono ∅) e3
    have e14:=Zhj D.c14 T mn
    have e15:=Zmd D.c15 T e14
    have e16:Has l.prog w K mg base "column_at" 1 _ _:=ZgI D.c16
    have e17:=Zjz D.c17 T e16
    have e18:=ZjA D.c18 e1
    have e18N:=ZjB D.c18 e1
    have e19:=ZgJ D.c19 md
    have e20:=Zfy D.c20 T D.Z.c (e17.mono ∅) e19
    have e21:=ZeD D.c21 mn mo e18
    have e22:=ZfM D.c22 T (e21.mono ∅) (e15.mono ∅) (e20.mono ∅)
    obtain ⟨fI,fdI,FI,ZI⟩:=D.I
    have q1:Has l.prog w K mg base "is_square" 1 _ _:=ZgC D.c24 T
    have q2:HasX l.prog w K mg base "need_square" 2 _ _:=Zfw D.c25 D.Z.c q1
    have qi:=Zmi (P:=l.prog) (w:=w) (base:=base) FI ZI.u ZI.c ZI.na
    have bI:Binds K fdI ["self", "rank"] []:=FI.binds λ_ _ _ _ _ _ us hl=>by obtain ⟨_,_,rfl⟩:=ZdM hl; exact rfl
    have q3:=Zjx D.c26 T ZI.c qi bI (q2.mono ∅) (e10.mono ∅) (e13.mono ∅) (e15.mono ∅)
    have p0:=ZoL (P:=l.prog) (w:=w) (base:=base) D.c23
    have p1:=ZiV (Q4 9) D.c23 mnC (q2.mono ∅) q3 (e22.mono ∅) (e18N.mono ∅) p0
    have p2:=ZiV (show 9<=10 by decide) D.c23 mnC (q2.mono ∅) (q3.mono ∅) (e22.mono ∅) (e18N.mono ∅) p1
    have w1:Has l.prog w K mg base "_law_whole" 1 _ _:=Zjh D.l1 T
    have w2:Has l.prog w K mg base "_law_divisor" 1 _ _:=Zhc D.l2 T
    have w3:Has l.prog w K mg base "_law_is_prime" 1 _ _:=Zgj D.l3
    have w4:=Zih D.l4 w3
    have w5:=Zll D.l5 kd ai
    have w6:=Zlg D.l6 w2
    have w7:=ZjC D.l7 w6
    have w8:=Zif D.l8 w6
    have w9:Has l.prog w K mg base "_law_cell" 1 _ _:=Zlf D.l9 T
    have w10:Has l.prog w K mg base "_law_made" 1 _ _:=Zlj D.l10
    have w11:=Zhs D.l11 w6
    have w12:=Zii (P:=l.prog) (w:=w) (base:=base) D.l12 T
    have w13:=ZfE D.l13 w12
    have w14:=Zhu D.l14 T (w12.mono ∅) (w13.mono ∅) (w9.mono ∅) (w11.mono ∅) (w10.mono ∅) (w8.mono ∅)
    have w15:=ZfN D.l15 T D.nz w8 w7 (w10.mono ∅)
    have w16:=Zij D.l16 T (w10.mono ∅)
    have w17:=Zik D.l17 T D.nz w8 w7 (w10.mono ∅)
    have w18:=Zhr D.l18 T w1 w2
    have w19:=ZfF D.l19 T w18
    have w20:=Zht D.l20 D.R.cat D.Z.e ZI.e p2
    have w21:=ZgQ (P:=l.prog) (w:=w) (base:=base) D.l21 T D.R D.Z
    have w22:=Zet D.l22 T D.R ZI (w1.mono ∅)
    have w23:=Zim D.l23 T (w21.mono ∅) (w22.mono ∅) w20 (w17.mono ∅) (p2.mono ∅) (w19.mono ∅) (w16.mono ∅) (w15.mono ∅)
    exact ZoQ F T (w13.mono ∅) (w4.mono ∅) (w5.mono ∅) (w14.mono ∅) w23
theorem walk{l:PySem.W.OpenLaw}{q:Program}{loose:List Str}{XP:(Str->Option Value)->Heap->Prop}{YP:World->Heap->Prop}{d:DefRec}{K:Params->PySem.W.Frag}(hn:l.most=some 63)(hdf:d.params.defaults=[])
    (hY:∀(w:World) (h:Heap),YP w h->(K w.params).In h)
    (F:∀(w:World) (mg:Str->Option Value) (fa:Addr) (h:Heap),(K w.params).In h->h.Ns mainGlobals mg->mg d.name=some (.ref fa) →
      ∃fd:FuncData,(∀(s:Shared) (u:Value),BindsTo s fd ⟨[u],[]⟩ [("_law_script", u)])/\∀base:Heap,(K w.params).In base->base.Ns mainGlobals mg->FnOk l.prog w (K w.params) mg base CX0 14 fa fd ["_law_script"] (sp_law (K w.params))) :
    PySem.W.WalkO q loose XP YP l.row.toRowW d [] (λf vs=>PySem.call f vs) :=
  L2.walk_ofB (n:=63) (k:=14) (x := "_law_script") (CX:=λ_=>CX0) (sp:=λw=>sp_law (K w.params)) hn ∅ hdf ⟨rfl,∅,∅⟩ hY F (λ_ _ a ns hl hb _ hS=>⟨a,ns,rfl,hS,hl,hb,λ_=>rfl⟩) λ_ _ _ _ _ z=>z
theorem kd_mk{K:PySem.W.Frag}{h:Heap}{mg:Str->Option Value}{CF CR:Addr}(X:K.In h)(G:h.Ns mainGlobals mg)(aF:PySem.W.nsIn K mainGlobals "Fractions" = some (some (.ref CF))) (aR:PySem.W.nsIn K mainGlobals "Rests" = some (some (.ref CR)))
    (p1:PySem.W.plainGet K CF Str.empty=true) (p2:PySem.W.hasDictIn K CF=true) (p3:PySem.W.plainOver K CF=true) (p4:PySem.W.findIn K (.ref CF) "__setattr__" = some (some (.builtin "object.__setattr__")))
    (q1:PySem.W.plainGet K CR Str.empty=true) (q2:PySem.W.hasDictIn K CR=true) (q3:PySem.W.plainOver K CR=true) (q4:PySem.W.findIn K (.ref CR) "__setattr__" = some (some (.builtin "object.__setattr__")))
    (nP:PySem.W.findIn K (.ref CR) "prime" = some none) (mk:PySem.W.makesIn K CF=true) (mi:PySem.W.findIn K (.ref CF) "__init__" = some (some (.builtin "object.__init__"))) (kp:PySem.W.keepIn K (.ref CF)=true):Kd K mg CF CR :=
  ⟨⟨p1,p2,p3,p4⟩,⟨q1,q2,q3,q4⟩,nP,⟨mk,mi,kp⟩,PySem.W.mg_of X G aF,PySem.W.mg_of X G aR⟩
theorem cn_mk{K:PySem.W.Frag}{h:Heap}{mg:Str->Option Value}{x:Str}{C:Addr}(X:K.In h)(G:h.Ns mainGlobals mg)(a:PySem.W.nsIn K mainGlobals x=some (some (.ref C)))(b:PySem.W.isClsIn K C=true)(c:PySem.W.typeIn K (.ref C)=some (.type "type")):CN K mg x C:=⟨PySem.W.mg_of X G a,b,c⟩
theorem xcls_mk{K:PySem.W.Frag}{C:Addr}(ga:PySem.W.findIn K (.ref C) "__getattribute__" = some (some (.builtin "BaseException.__getattribute__"))) (ha:PySem.W.findIn K (.ref C) "__getattr__" = some none) (cl:PySem.W.findIn K (.ref C) "__class__" = some (some (.builtin "object.__class__")))
    (hn:PySem.W.specialIn K (.builtin "object.__class__") "__get__" = some (some (.builtin "getset_descriptor.__get__"))) (tk:PySem.W.takesIn K (.builtin "object.__class__")=some true) (ob:PySem.W.mroIn K C (.type "object")=some true) (be:PySem.W.mroIn K C (.type "BaseException")=some true) (hd:PySem.W.hasDictIn K C=true):XCls K C:=⟨ga,ha,cl,hn,tk,ob,be,hd⟩
theorem apart_cons{K:PySem.W.Frag}{C D:Addr}{r:List Addr}(a:PySem.W.mroIn K C (.ref D)=some false)(n:C≠D)(z:Zji K C r):Zji K C (D::r):=⟨⟨a,n⟩,z⟩
theorem rzi_mk{K:PySem.W.Frag}{mg:Str->Option Value}{CE C f:Addr}{os:List Addr}{oc:Value}{od an:Option Addr}{osl:Array (Option Value)}{kV doc pm cdv ct:Value}(nI:CN K mg "NoInverse" C) (nE:CN K mg "FrameError" CE) (ini:PySem.W.findIn K (.ref C) "__init__" = some (some (.ref f)))
    (l:K.lookup f=some ⟨oc,od,.func (PySem.W.fnOf "__init__" "NoInverse.__init__" (ZbS Zay) (Zbi Zay) (Zag Zay) .none kV doc pm an cdv ct),osl⟩) (c:PySem.W.codeIn K cdv "NoInverse.__init__" = true) (k:PySem.W.keepIn K (.ref f)=true)
    (cls:XCls K C) (own:ZiD K C CE=true) (tail:PySem.W.tailIn K bmV (.ref CE::bmV)=true) (fn:PySem.W.typeIn K (.ref f)=some (.type "function")) (kp:PySem.W.keepIn K (.ref C)=true) (sa:PySem.W.findIn K (.ref C) "__setattr__" = some (some (.builtin "object.__setattr__"))) (sf:PySem.W.mroIn K C (.ref C)=some true)
    (sg:PySem.W.specialIn K (.ref CE) "__getattribute__" = some (some (.builtin "type.__getattribute__"))) (rd:PySem.W.readsIn K CE (.type "type")=true) (fc:PySem.W.findCls K (.ref CE) (.type "type") "__init__" = some (.val (.builtin "ValueError.__init__"))) (na:PySem.W.findIn K (.ref C) "rank" = some none) (e:PySem.W.mroIn K C (.ref CE)=some true) (v:PySem.W.mroIn K C (.type "ValueError")=some true) (o:Zji K C os) :
    ∃(f:Addr) (fd:FuncData),Fun K "__init__" "NoInverse.__init__" Zay f fd/\RzI K mg CE C f os:=⟨f,_,Ziw l c k,⟨⟨cls,nI.m,own,tail,ini,fn,kp,sa,sf⟩,⟨nE.m,sg,rd,fc⟩,na,e,v,o⟩⟩
end My
open PySem PySem.W PyProof.Rows
local macro_rules | `(tactic| walk_at "xcls") => `(tactic| exact My.xcls_mk (by k_is) (by k_is) (by k_is) (by k_is) (by k_is) (by k_is) (by k_is) (by k_is))
local macro_rules | `(tactic| walk_at "apart") => `(tactic| repeat (first | exact True.intro | (refine' My.apart_cons (by k_is) ∅ ?_)))
set_option maxRecDepth 100000 in
set_option maxHeartbeats 0 in
theorem PySem.Challenge.cw_turnframe_k71_power_holds : PySem.Challenge.rw_turnframe_k71_power.Holds := by
  w_on; o_law; k_head; (case hw=>w_witness2)
  k_fill
  refine My.walk (l:=PySem.Challenge.rw_turnframe_k71_power) rfl rfl (λw h Y=>PySem.W.kIn_of Y) ?F
  case F =>
    intro w mg fa h KX G hmg
    have kd:=by
      refine' My.kd_mk KX G ?e1 ?e2 ?e3 ?e4 ?e5 ?e6 ?e7 ?e8 ?e9 ?e10 ?e11 ?e12 ?e13 ?e14
      (case e1=>k_is); (case e2=>k_is); (case e3=>k_is); (case e4=>k_is); (case e5=>k_is); (case e6=>k_is); (case e7=>k_is)
      (case e8=>k_is); (case e9=>k_is); (case e10=>k_is); (case e11=>k_is); (case e12=>k_is); (case e13=>k_is); (case e14=>k_is)
    have nE:=by
      refine' My.cn_mk (x := "FrameError") KX G ?a ?b ?c
      (case a=>k_is); (case b=>k_is); (case c=>k_is)
    have nk:=by
      refine' My.cn_mk (x := "NoKind") KX G ?a ?b ?c
      (case a=>k_is); (case b=>k_is); (case c=>k_is)
    have nn:=by
      refine' My.cn_mk (x := "NoNumber") KX G ?a ?b ?c
      (case a=>k_is); (case b=>k_is); (case c=>k_is)
    have nf:=by
      refine' My.cn_mk (x := "NoFit") KX G ?a ?b ?c
      (case a=>k_is); (case b=>k_is); (case c=>k_is)
    have nt:=by
      refine' My.cn_mk (x := "NoTurn") KX G ?a ?b ?c
      (case a=>k_is); (case b=>k_is); (case c=>k_is)
    have ni:=by
      refine' My.cn_mk (x := "NoInverse") KX G ?a ?b ?c
      (case a=>k_is); (case b=>k_is); (case c=>k_is)
    have nx:=by
      refine' My.cn_mk (x := "NoText") KX G ?a ?b ?c
      (case a=>k_is); (case b=>k_is); (case c=>k_is)
    have nm:=by
      refine' My.cn_mk (x := "NoName") KX G ?a ?b ?c
      (case a=>k_is); (case b=>k_is); (case c=>k_is)
    have nr:=by
      refine' My.cn_mk (x := "NoRow") KX G ?a ?b ?c
      (case a=>k_is); (case b=>k_is); (case c=>k_is)
    have x_xn:=by
      refine' My.cn_mk (x := "NoNumber") KX G ?a ?b ?c
      (case a=>k_is); (case b=>k_is); (case c=>k_is)
    have x_xt:=by
      refine' My.cn_mk (x := "NoTurn") KX G ?a ?b ?c
      (case a=>k_is); (case b=>k_is); (case c=>k_is)
    refine My.all_mk hmg ⟨?T,kd,⟨nE,?eb,nk,nn,nf,nt,ni,nx,nm,nr,PySem.W.mg_none_of KX G ?ve⟩,⟨⟨?Zx,nf.m,?Zi⟩,?Ze,?Zv,?Zo⟩,?I,⟨?xnx,x_xn.m,?xni⟩,⟨?xtx,x_xt.m,?xti⟩,PySem.W.mg_none_of KX G ?nz,PySem.W.mg_none_of KX G ?nsu,?d1,?d2,?d3,?d4,?d5,?c1,?c2,?c3,?c4,?c5,?c6,?c7,?c8,?c9,?c10,?c11,?c12,?c13,?c14,?c15,?c16,?c17,?c18,?c19,?c20,?c21,?c22,?c23,?c24,?c25,?c26,?l1,?l2,?l3,?l4,?l5,?l6,?l7,?l8,?l9,?l10,?l11,?l12,?l13,?l14,?l15,?l16,?l17,?l18,?l19,?l20,?l21,?l22,?l23,?m1,?m2,?m3,?m4,?m5,?m6,?m7,?r1,?r2,?r3,?r4,?r5,?r6,?r7,?n1,?n2,?i1,?lw⟩
    case eb=>k_is
    case ve=>k_is
    case Zx=>walk_at "xcls"
    case Zi=>k_exc
    case Ze=>k_is
    case Zv=>k_is
    case Zo=>walk_at "apart"
    case I =>
      refine' My.rzi_mk ni nE ?e1 ?e2 ?e3 ?e4 ?e5 ?e6 ?e7 ?e8 ?e9 ?e10 ?e11 ?e12 ?e13 ?e14 ?e15 ?e16 ?e17 ?e18
      (case e1=>k_is); (case e2=>k_is); (case e3=>k_is); (case e4=>k_is); (case e5=>walk_at "xcls"); (case e6=>kernel_rfl); (case e7=>kernel_rfl); (case e8=>k_is); (case e9=>k_is); (case e10=>k_is); (case e11=>k_is)
      (case e12=>k_is); (case e13=>k_is); (case e14=>k_is); (case e15=>k_is); (case e16=>k_is); (case e17=>k_is); (case e18=>walk_at "apart")
    case xnx=>walk_at "xcls"
    case xni=>k_exc
    case xtx=>walk_at "xcls"
    case xti=>k_exc
    case nz=>k_is
    case nsu=>k_is
    case T =>
      refine' My.nm_mk (PySem.W.mg_of KX G ?e1) ?e2 (PySem.W.mg_none_of KX G ?e3) (PySem.W.mg_none_of KX G ?e4) (PySem.W.mg_none_of KX G ?e5) (PySem.W.mg_none_of KX G ?e6) (PySem.W.mg_none_of KX G ?e7) (PySem.W.mg_none_of KX G ?e8) (PySem.W.mg_none_of KX G ?e9) (PySem.W.mg_none_of KX G ?e10)
      (case e1=>k_is); (case e2=>exact ⟨_,rfl⟩); (case e3=>k_is); (case e4=>k_is); (case e5=>k_is); (case e6=>k_is); (case e7=>k_is); (case e8=>k_is); (case e9=>k_is); (case e10=>k_is)
    case i1 =>
      refine' L2.hereI_mk ?e1 ?e2 ?e3 ?e4 ?e5 ?e6 ?e7
      (case e1=>k_is); (case e2=>k_is); (case e3=>k_is); (case e4=>k_is); (case e5=>k_is); (case e6=>k_is); (case e7=>k_is)
    case n1 =>
      refine' ⟨_,L2.hereD_mk ?x0a ?x0i ?x0l ?x0t ?x0c ?x0k⟩
      (case x0a=>k_is); (case x0i=>k_is); (case x0l=>k_is); (case x0t=>(apply Eq.trans; k_is; rfl)); (case x0c=>k_is); (case x0k=>k_is)
    case n2 =>
      refine' ⟨_,L2.hereD_mk ?x1a ?x1i ?x1l ?x1t ?x1c ?x1k⟩
      (case x1a=>k_is); (case x1i=>k_is); (case x1l=>k_is); (case x1t=>(apply Eq.trans; k_is; rfl)); (case x1c=>k_is); (case x1k=>k_is)
    all_goals first
      | (refine' L2.here_mk KX G ?y1 ?y2 ?y3 ?y4
         (case y1=>k_is); (case y2=>k_is); (case y3=>k_is); (case y4=>k_is))
      | (refine' L2.hereM_mk ?z1 ?z2 ?z3 ?z4 ?z5
         (case z1=>k_is); (case z2=>k_is); (case z3=>k_is); (case z4=>k_is); (case z5=>k_is))
