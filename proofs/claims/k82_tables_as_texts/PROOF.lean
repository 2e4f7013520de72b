import PyProof.Rows.All
import Wide.All
import OpenK.AllK
import Wide.FinOn
import Lean
import PyProof.EqAt
import PyProof.EqKinds
import PyProof.TupleCall
import KE.KIntText
import PySem.Challenge.RW_turnframe_k82_tables_as_texts
set_option Elab.async false
set_option linter.all false
set_option maxRecDepth 100000
namespace L2
open PySem PySem.Spec PyProof.Rows
abbrev Key:=Sum Int Str
def Zh0:Key → Value → Bool
  | .inl k,v => Value.isInt k v
  | .inr x,v => Value.isStrOf x v
def Zjj (w:World):Key → Int
  | .inl k => hashInt k
  | .inr x => hashStr w x
theorem ZaC:∀ {k:Key} {v:Value},Zh0 k v = true → (∃ i t,k = Sum.inl i ∧ v = Value.int i t) ∨ (∃ x t,k = Sum.inr x ∧ v = Value.str x t)
  | .inl i,v,h => by
    obtain ⟨t,e⟩:=Value.isInt_shape (k:=i) (v:=v) h
    exact .inl ⟨i,t,rfl,e⟩
  | .inr x,v,h => by
    obtain ⟨t,e⟩:=Value.isStrOf_shape (x:=x) (v:=v) h
    exact .inr ⟨x,t,rfl,e⟩
theorem Zh1 (a b:Int):decide ((Sum.inl a:Key) = Sum.inl b) = (a == b):=by
  by_cases e:a = b
  · subst e; simp
  · have h:¬ (Sum.inl a:Key) = Sum.inl b:=fun q => e (Sum.inl.inj q)
    rw [decide_eq_false h]
    exact (beq_eq_false_iff_ne.mpr e).symm
theorem Zh2 (a b:Str):decide ((Sum.inr a:Key) = Sum.inr b) = decide (a = b):=by
  by_cases e:a = b
  · subst e; simp
  · have h:¬ (Sum.inr a:Key) = Sum.inr b:=fun q => e (Sum.inr.inj q)
    rw [decide_eq_false h,decide_eq_false e]
theorem Zh3 (a:Int) (b:Str):decide ((Sum.inl a:Key) = Sum.inr b) = false:=decide_eq_false (fun q => nomatch q)
theorem Zh4 (a:Str) (b:Int):decide ((Sum.inr a:Key) = Sum.inl b) = false:=decide_eq_false (fun q => nomatch q)
def ZbI (prog:Program) (w:World):PySem.KeyKind prog w Key where
  is:=Zh0
  hash:=Zjj w
  inj:=fun v a b ha hb => by
    rcases ZaC ha with ⟨i,t,rfl,rfl⟩ | ⟨x,t,rfl,rfl⟩
    · rcases ZaC hb with ⟨j,u,rfl,e⟩ | ⟨y,u,rfl,e⟩
      · injection e with e1 _; rw [e1]
      · exact nomatch e
    · rcases ZaC hb with ⟨j,u,rfl,e⟩ | ⟨y,u,rfl,e⟩
      · exact nomatch e
      · injection e with e1 _; rw [e1]
  byValue:=fun k v h => by
    rcases ZaC h with ⟨i,t,rfl,rfl⟩ | ⟨x,t,rfl,rfl⟩ <;> rfl
  pyHash:=fun hv h => by
    rcases ZaC hv with ⟨i,t,rfl,rfl⟩ | ⟨x,t,rfl,rfl⟩
    · exact wpAny_pyHash_int h
    · exact wpAny_pyHash_str h
  eqBool:=fun hu hv h => by
    rcases ZaC hu with ⟨i,t,rfl,rfl⟩ | ⟨x,t,rfl,rfl⟩
    · rcases ZaC hv with ⟨j,u,rfl,rfl⟩ | ⟨y,u,rfl,rfl⟩
      · rw [Zh1] at h; exact wpAny_eqBool_int h
      · rw [Zh3] at h; exact SeqAt.EqAt.int_str i t y u _ _ _ _ h
    · rcases ZaC hv with ⟨j,u,rfl,rfl⟩ | ⟨y,u,rfl,rfl⟩
      · rw [Zh4] at h; exact SeqAt.EqAt.str_int x t j u _ _ _ _ h
      · rw [Zh2] at h; exact wpAny_eqBool_str h
  «strs»:=fun k x t v h => by
    rcases ZaC h with ⟨i,u,rfl,e⟩ | ⟨y,u,rfl,e⟩
    · exact nomatch e
    · injection e with e1 _
      subst e1
      cases v <;> rfl
end L2
namespace L2
open PySem PySem.Spec PyProof.Rows
inductive V where
  | non | bl (b:Bool) | int (i:Int) | str (x:Str) | byt (b:Array UInt8) | flt (b:UInt64) | ref (a:Addr) | ty (n:String)
  deriving DecidableEq
def RelV:V → Value → Prop
  | .non,u => u = Value.none
  | .bl b,u => u = Value.bool b
  | .int i,u => ∃ t,u = Value.int i t
  | .str x,u => ∃ t,u = Value.str x t
  | .byt b,u => ∃ t,u = Value.bytes b t
  | .flt b,u => ∃ t,u = Value.float b t
  | .ref a,u => u = Value.ref a
  | .ty n,u => u = Value.type n
abbrev Vals:List V → List Value → Prop:=Paired RelV
theorem Vals.length {xs:List V} {us:List Value} (r:Vals xs us):xs.length = us.length:=Paired.length r
theorem Vals.get:∀ {xs:List V} {us:List Value} {i:Nat} {x:V},Vals xs us → xs[i]? = some x → ∃ u,us[i]? = some u ∧ RelV x u
  | _,_,_,_,.nil,e => by simp at e
  | _,_,0,_,.cons r _,e => by simp at e; subst e; exact ⟨_,rfl,r⟩
  | _,_,i + 1,x,.cons _ t,e => by
    obtain ⟨u,h1,h2⟩:=Vals.get (i:=i) (x:=x) t (by simpa using e)
    exact ⟨u,by simpa using h1,h2⟩
theorem Vals.set {x:V} {u:Value} (r:RelV x u):∀ {xs:List V} {us:List Value} (i:Nat),Vals xs us → Vals (xs.set i x) (us.set i u)
  | _,_,_,.nil => .nil
  | _,_,0,.cons _ t => .cons r t
  | _,_,i + 1,.cons q t => .cons q (Vals.set r i t)
theorem Vals.append:∀ {xs ys:List V} {us ws:List Value},Vals xs us → Vals ys ws → Vals (xs ++ ys) (us ++ ws)
  | _,_,_,_,.nil,s => s
  | _,_,_,_,.cons r t,s => .cons r (Vals.append t s)
theorem Vals.take:∀ {xs:List V} {us:List Value} (n:Nat),Vals xs us → Vals (xs.take n) (us.take n)
  | _,_,0,_ => .nil
  | _,_,_ + 1,.nil => .nil
  | _,_,n + 1,.cons r t => .cons r (Vals.take n t)
theorem Vals.drop:∀ {xs:List V} {us:List Value} (n:Nat),Vals xs us → Vals (xs.drop n) (us.drop n)
  | _,_,0,r => r
  | _,_,_ + 1,.nil => .nil
  | _,_,n + 1,.cons _ t => Vals.drop n t
theorem Vals.none_of:∀ {xs:List V} {us:List Value} {i:Nat},Vals xs us → xs[i]? = none → us[i]? = none:=fun {xs us i} r e => by
  have h1:=r.length
  have h2:xs.length ≤ i:=List.getElem?_eq_none_iff.mp e
  exact List.getElem?_eq_none_iff.mpr (by omega)
def RelO:Option V → Option Value → Prop
  | some v,some u => RelV v u
  | none,none => True
  | _,_ => False
def KV {κ:Type}:List (κ × V) → List (κ × Value) → Prop:=Paired fun (p:κ × V) (q:κ × Value) => p.1 = q.1 ∧ RelV p.2 q.2
def kV:Key → V
  | .inl i => .int i
  | .inr x => .str x
inductive HO where
    | lst (xs:List V)
    | tup (xs:List V)
    | dK (kvs:List (Key × V)) | dT (kvs:List (List Key × V))
    | set (S:Int → Bool) (n:Nat)
    | ins (C dx:Addr) (fs:List (Str × V))
    | own (x:Addr)
    | xd (fs:List (Str × V))
    | met (f x:Addr)
    | rng (lo hi:Int)
    | frz (o:Obj) (u:HO)
    | tbl (ps:Array Value)
    | ext (φ:Heap → Prop)
abbrev Hp:=Addr → Option HO
def upd (H:Hp) (a:Addr) (o:HO):Hp:=fun b => if b = a then some o else H b
theorem Zaf {H:Hp} {a:Addr} {o:HO}:upd H a o a = some o:=by unfold upd; rw [if_pos rfl]
theorem Zan {H:Hp} {a b:Addr} {o:HO} (h:b ≠ a):upd H a o b = H b:=by unfold upd; rw [if_neg h]
theorem Zaz {H:Hp} {a b:Addr} {o:HO} (h:H a = some o) (h':H b = none):a ≠ b:=by
  intro e; subst e; rw [h] at h'; cases h'
section
variable (P:Program) (w:World)
def ObjOk (H:Hp) (h:Heap) (a:Addr):HO → Prop
  | .lst xs => xs.length ≤ sizeLine ∧ ∃ (its:List Value) (n:Nat),Vals xs its ∧ h.get? a = some { cls:=.type "list", data:=.seq its.toArray n }
  | .tup xs => xs.length ≤ sizeLine ∧ ∃ its:List Value,Vals xs its ∧ IsTup h a its.toArray
  | .dK kvs => kvs.length ≤ sizeLine ∧ (a == sysModules) = false ∧ ∃ vs,KV kvs vs ∧ h.DictOf (ZbI P w) a vs
  | .dT kvs => kvs.length ≤ sizeLine ∧ (a == sysModules) = false ∧ ∃ xs:List (List Key × Addr × Value),
      Paired (fun (p:List Key × V) (q:List Key × Addr × Value) => p.1 = q.1 ∧ H q.2.1 = some (.tup (p.1.map kV)) ∧ RelV p.2 q.2.2) kvs xs ∧
      ∃ o es ep,h.get? a = some o ∧ o.ExactDict ∧ o.data = .dict es ep ∧ es.toList = xs.map (entryOfKey (tupleKind (ZbI P w))) ∧ (xs.map (·.1)).Nodup
  | .set S n => h.SetOf (intKind P w) a S n
  | .ins C dx fs => H dx = some (.own a) ∧ fs.length ≤ 1000 ∧ dx ≠ a ∧ h.get? a = some (PySem.W.instObj C dx) ∧
      ∃ mA,h.Ns1 dx mA ∧ (∀ f,RelO (fs.lookup f) (mA f)) ∧ PySem.Within mA (fs.map (·.1))
  | .own _ => ∃ o,h.get? a = some o
  | .xd fs => ∃ mA,h.Ns1 a mA ∧ ∀ f,RelO (fs.lookup f) (mA f)
  | .rng lo hi => ∃ t u v,h.get? a = some { cls:=.type "range", data:=.fields #[.int lo t,.int hi u,.int 1 v] }
  | .frz o u => h.get? a = some o ∧ ObjOk H h a u
  | .tbl ps => h.get? a = some { cls:=.none,data:=.fields ps }
  | .met f x => h.get? a = some (PySem.W.methodObj (.ref f) (.ref x))
  | .ext φ => φ h ∧ (∃ o,h.get? a = some o) ∧ ∀ h1 h2:Heap,φ h1 → (∀ o,h1.get? a = some o → h2.get? a = some o) → φ h2
def HOk (H:Hp) (h:Heap):Prop:=∀ a o,H a = some o → ObjOk P w H h a o
end
section
variable {P:Program} {w:World} {H H':Hp} {h h':Heap} {a:Addr} {o:HO}
theorem ObjOk.lt (x:ObjOk P w H h a o):a < h.objs.size:=by
  cases o with
  | lst xs => obtain ⟨_,_,_,_,e⟩:=x; exact Heap.lt_size e
  | tup xs => obtain ⟨_,_,_,p⟩:=x; exact p.lt
  | dK kvs => obtain ⟨_,_,_,_,o,_,_,e,_⟩:=x; exact Heap.lt_size e
  | dT kvs => obtain ⟨_,_,_,_,o,_,_,e,_⟩:=x; exact Heap.lt_size e
  | set S n => obtain ⟨o,_,_,_,e,_⟩:=x; exact Heap.lt_size e
  | ins C dx fs => obtain ⟨_,_,_,e,_⟩:=x; exact Heap.lt_size e
  | own y => obtain ⟨_,e⟩:=x; exact Heap.lt_size e
  | xd fs => obtain ⟨_,⟨_,_,_,e,_⟩,_⟩:=x; exact Heap.lt_size e
  | rng lo hi => obtain ⟨_,_,_,e⟩:=x; exact Heap.lt_size e
  | frz ob u => obtain ⟨e,_⟩:=x; exact Heap.lt_size e
  | tbl ps => exact Heap.lt_size (show h.get? a = some _ from x)
  | met f y => exact Heap.lt_size (show h.get? a = some _ from x)
  | ext φ => obtain ⟨_,⟨_,e⟩,_⟩:=x; exact Heap.lt_size e
theorem Paired.mapP {α β:Type} {F G:α → β → Prop}:∀ {l₁:List α} {l₂:List β},Paired F l₁ l₂ → (∀ a b,F a b → G a b) → Paired G l₁ l₂
  | _,_,.nil,_ => .nil
  | _,_,.cons r t,f => .cons (f _ _ r) (Paired.mapP t f)
theorem ObjOk.stay (x:ObjOk P w H h a o) (k:∀ b u,(b = a ∨ H b = some (.own a)) → h.get? b = some u → h'.get? b = some u)
    (ho:∀ b,H b = some (.own a) → H' b = some (.own a)) (ht:∀ b xs,H b = some (.tup xs) → H' b = some (.tup xs)):ObjOk P w H' h' a o:=by
  induction o with
  | lst xs => obtain ⟨z,its,n,r,e⟩:=x; exact ⟨z,its,n,r,k _ _ (.inl rfl) e⟩
  | tup xs => obtain ⟨z,its,r,ob,e,c⟩:=x; exact ⟨z,its,r,ob,k _ _ (.inl rfl) e,c⟩
  | dK kvs => obtain ⟨z,y,vs,r,ob,es,ep,e,c⟩:=x; exact ⟨z,y,vs,r,ob,es,ep,k _ _ (.inl rfl) e,c⟩
  | dT kvs =>
    obtain ⟨z,y,xs,r,ob,es,ep,e,c⟩:=x
    exact ⟨z,y,xs,Paired.mapP r fun p q z => ⟨z.1,ht _ _ z.2.1,z.2.2⟩,ob,es,ep,k _ _ (.inl rfl) e,c⟩
  | set S n => obtain ⟨ob,es,ep,t,e,c⟩:=x; exact ⟨ob,es,ep,t,k _ _ (.inl rfl) e,c⟩
  | ins C dx fs =>
    obtain ⟨d,z,ne,e,mA,⟨od,es,ep,e2,c⟩,r⟩:=x
    exact ⟨ho _ d,z,ne,k _ _ (.inl rfl) e,mA,⟨od,es,ep,k _ _ (.inr d) e2,c⟩,r⟩
  | own y => obtain ⟨ob,e⟩:=x; exact ⟨ob,k _ _ (.inl rfl) e⟩
  | xd fs => obtain ⟨mA,⟨od,es,ep,e,c⟩,r⟩:=x; exact ⟨mA,⟨od,es,ep,k _ _ (.inl rfl) e,c⟩,r⟩
  | rng lo hi => obtain ⟨t,u,v,e⟩:=x; exact ⟨t,u,v,k _ _ (.inl rfl) e⟩
  | frz ob u ih => obtain ⟨e,q⟩:=x; exact ⟨k _ _ (.inl rfl) e,ih q⟩
  | tbl ps =>
    have e:h.get? a = some { cls:=.none,data:=.fields ps }:=x
    show h'.get? a = some { cls:=.none,data:=.fields ps }
    exact k a _ (.inl rfl) e
  | met f y =>
    have e:h.get? a = some (PySem.W.methodObj (.ref f) (.ref y)):=x
    show h'.get? a = some (PySem.W.methodObj (.ref f) (.ref y))
    exact k a _ (.inl rfl) e
  | ext φ => obtain ⟨p,⟨o,e⟩,st⟩:=x; exact ⟨st _ _ p fun o q => k _ _ (.inl rfl) q,⟨o,k _ _ (.inl rfl) e⟩,st⟩
theorem HOk.lt (x:HOk P w H h) (e:H a = some o):a < h.objs.size:=(x a o e).lt
theorem HOk.fresh (x:HOk P w H h) (e:h.objs.size ≤ a):H a = none:=by
  cases q:H a with
  | none => rfl
  | some u => exact absurd (Nat.lt_of_lt_of_le (x.lt q) e) (Nat.lt_irrefl _)
theorem HOk.kept (x:HOk P w H h) (k:∀ b u,h.get? b = some u → h'.get? b = some u):HOk P w H h':=fun a o e =>
  (x a o e).stay (fun b u _ q => k b u q) (fun _ q => q) fun _ _ q => q
theorem HOk.laid (x:HOk P w H h) (k:∀ b u,h.get? b = some u → h'.get? b = some u) (hp:h.objs.size ≤ a) (new:ObjOk P w (upd H a o) h' a o):HOk P w (upd H a o) h':=fun b u e => by
  have hn:=x.fresh hp
  by_cases hb:b = a
  · subst hb; rw [Zaf] at e; cases e; exact new
  · rw [Zan hb] at e
    exact (x b u e).stay (fun c v _ q => k c v q) (fun c q => by rw [Zan (Zaz q hn)]; exact q) fun c xs q => by rw [Zan (Zaz q hn)]; exact q
end
def Rd (H:Hp) (a:Addr) (u:HO):Prop:=H a = some u ∨ ∃ o,H a = some (.frz o u)
theorem Rd.of {H:Hp} {a:Addr} {u:HO} (h:H a = some u):Rd H a u:=.inl h
theorem Rd.ok {P:Program} {w:World} {H:Hp} {h:Heap} {a:Addr} {u:HO} (r:Rd H a u) (x:HOk P w H h):ObjOk P w H h a u:=by
  rcases r with r | ⟨o,r⟩
  · exact x a u r
  · obtain ⟨_,q⟩:=x a _ r
    exact q
def Mut:Option HO → Prop
  | some (.lst _) => True
  | some (.dK _) => True
  | some (.dT _) => True
  | some (.set _ _) => True
  | some (.ins _ _ _) => True
  | some (.ext _) => True
  | _ => False
section
variable {P:Program} {w:World} {H:Hp} {h h':Heap} {x e:Addr} {o':HO}
theorem HOk.write (ok:HOk P w H h) (mu:Mut (H x)) (he:e = x ∨ H e = some (.own x)) (k:∀ b u,b ≠ e → h.get? b = some u → h'.get? b = some u) (heo:∃ u,h'.get? e = some u)
    (new:ObjOk P w (upd H x o') h' x o'):HOk P w (upd H x o') h':=fun b u q => by
  have nown:∀ c y,H c = some (.own y) → c ≠ x:=fun c y r z => by subst z; rw [r] at mu; exact mu
  have ntup:∀ c xs,H c = some (.tup xs) → c ≠ x:=fun c xs r z => by subst z; rw [r] at mu; exact mu
  by_cases hb:b = x
  · subst hb; rw [Zaf] at q; cases q; exact new
  · rw [Zan hb] at q
    by_cases hbe:b = e
    · have q':H b = some (.own x):=by
        rcases he with z | z
        · exact absurd (hbe.trans z) hb
        · rw [hbe]; exact z
      rw [q] at q'; cases q'
      obtain ⟨v,hv⟩:=heo
      exact ⟨v,by rw [hbe]; exact hv⟩
    · refine (ok b u q).stay (fun c v hc r => k c v ?_ r) (fun c r => by rw [Zan (nown c b r)]; exact r) fun c xs r => by rw [Zan (ntup c xs r)]; exact r
      rcases hc with rfl | hc
      · exact hbe
      · rintro rfl
        rcases he with z | z
        · exact nown c b hc z
        · rw [hc] at z; cases z; exact hb rfl
end
structure Un (fs ex:List Addr) (H H':Hp) (h h':Heap):Prop where
  keep:∀ b o,h.get? b = some o → H b = none → b ∉ fs → b ∉ ex → h'.get? b = some o
  slot:∀ b o,h.get? b = some o → H b = none → b ∈ fs → b ∉ ex → ∃ sl,h'.get? b = some { o with slots:=sl }
  free:∀ b o,h.get? b = some o → H b = none → b ∉ ex → H' b = none
  there:∀ b o,h.get? b = some o → b ∉ ex → ∃ o',h'.get? b = some o'
  tups:∀ b xs,H b = some (.tup xs) → H' b = some (.tup xs)
  frzs:∀ b o u,H b = some (.frz o u) → H' b = some (.frz o u)
  tbls:∀ b ps,H b = some (.tbl ps) → ∃ more,H' b = some (.tbl (ps ++ more))
section
variable {fs fs' ex ex':List Addr} {H H1 H2:Hp} {h h1 h2 h':Heap} {a x e:Addr} {o:HO}
theorem Un.any (u:Un fs ex H H1 h h1) {b:Addr} {ob:Obj} (q:h.get? b = some ob) (n:H b = none) (hx:b ∉ ex):∃ sl,h1.get? b = some { ob with slots:=sl }:=by
  by_cases hb:b ∈ fs
  · exact u.slot b ob q n hb hx
  · exact ⟨ob.slots,u.keep b ob q n hb hx⟩
theorem Un.trans (a:Un fs ex H H1 h h1) (b:Un fs ex H1 H2 h1 h2):Un fs ex H H2 h h2 where
  keep:=fun c ob q n hc hx => b.keep c ob (a.keep c ob q n hc hx) (a.free c ob q n hx) hc hx
  slot:=fun c ob q n hc hx => by
    obtain ⟨sl,e1⟩:=a.slot c ob q n hc hx
    obtain ⟨sl',e2⟩:=b.slot c _ e1 (a.free c ob q n hx) hc hx
    exact ⟨sl',e2⟩
  free:=fun c ob q n hx => by
    obtain ⟨o',e1⟩:=a.there c ob q hx
    exact b.free c o' e1 (a.free c ob q n hx) hx
  there:=fun c ob q hx => by
    obtain ⟨o',e1⟩:=a.there c ob q hx
    exact b.there c o' e1 hx
  tups:=fun c xs q => b.tups c xs (a.tups c xs q)
  frzs:=fun c ob xs q => b.frzs c ob xs (a.frzs c ob xs q)
  tbls:=fun c ps q => by
    obtain ⟨m1,e1⟩:=a.tbls c ps q
    obtain ⟨m2,e2⟩:=b.tbls c _ e1
    exact ⟨m1 ++ m2,by rw [e2,Array.append_assoc]⟩
theorem Un.kept (k:∀ b u,h.get? b = some u → h'.get? b = some u):Un fs ex H H h h' :=
  ⟨fun b ob q _ _ _ => k b ob q,fun b ob q _ _ _ => ⟨ob.slots,k b ob q⟩,fun _ _ _ n _ => n,fun b ob q _ => ⟨ob,k b ob q⟩,fun _ _ q => q,fun _ _ _ q => q,fun _ ps q => ⟨#[],by rw [q]; simp⟩⟩
theorem Un.refl:Un fs ex H H h h:=Un.kept fun _ _ q => q
theorem Un.laid (k:∀ b u,h.get? b = some u → h'.get? b = some u) (hp:h.objs.size ≤ a) (hn:H a = none):Un fs ex H (upd H a o) h h' where
  keep:=fun b u q _ _ _ => k b u q
  slot:=fun b u q _ _ _ => ⟨u.slots,k b u q⟩
  free:=fun b u q n _ => by rw [Zan (Nat.ne_of_lt (Nat.lt_of_lt_of_le (Heap.lt_size q) hp))]; exact n
  there:=fun b u q _ => ⟨u,k b u q⟩
  tups:=fun b xs q => by rw [Zan (Zaz q hn)]; exact q
  frzs:=fun b u xs q => by rw [Zan (Zaz q hn)]; exact q
  tbls:=fun b ps q => ⟨#[],by rw [Zan (Zaz q hn),q]; simp⟩
theorem Un.write (mu:Mut (H x)) (he:e = x ∨ H e = some (.own x)) (k:∀ b u,b ≠ e → h.get? b = some u → h'.get? b = some u) (heo:∃ u,h'.get? e = some u):Un fs ex H (upd H x o) h h':=by
  have hx:∀ b,H b = none → b ≠ x:=fun b n z => by subst z; rw [n] at mu; exact mu
  have hb:∀ b,H b = none → b ≠ e:=fun b n z => by
    subst z
    rcases he with r | r
    · exact hx b n r
    · rw [n] at r; cases r
  have hm:∀ b u,H b = some u → ¬ Mut (some u) → b ≠ x:=fun b u q nm z => by subst z; rw [q] at mu; exact nm mu
  refine ⟨fun b u q n _ _ => k b u (hb b n) q,fun b u q n _ _ => ⟨u.slots,k b u (hb b n) q⟩,fun b u q n _ => by rw [Zan (hx b n)]; exact n,fun b u q _ => ?_,
    fun b xs q => by rw [Zan (hm b _ q fun z => z)]; exact q,fun b u xs q => by rw [Zan (hm b _ q fun z => z)]; exact q,fun b ps q => ⟨#[],by rw [Zan (hm b _ q fun z => z),q]; simp⟩⟩
  by_cases hbe:b = e
  · subst hbe; exact heo
  · exact ⟨u,k b u hbe q⟩
theorem Un.mono (u:Un fs ex H H1 h h1) (hs:∀ b ∈ fs,b ∈ fs') (hx:∀ b ∈ ex,b ∈ ex'):Un fs' ex' H H1 h h1 :=
  ⟨fun b ob q n hb he => u.keep b ob q n (fun z => hb (hs b z)) fun z => he (hx b z),fun _ _ q n _ he => u.any q n fun z => he (hx _ z),fun b ob q n he => u.free b ob q n fun z => he (hx b z),fun b ob q he => u.there b ob q fun z => he (hx b z),u.tups,u.frzs,u.tbls⟩
end
def trk (h:Heap) (H:Hp):List Addr:=(List.range h.objs.size).filter fun a => (H a).isSome
def ZgC (h:Heap) (H:Hp):Heap:=PySem.W.hideAll h (trk h H)
theorem ZfE (h:Heap) (H:Hp):(ZgC h H).objs.size = h.objs.size:=PySem.W.hideAll_size _ _
theorem ZgD {h:Heap} {H:Hp} {b:Addr} {o:Obj} (e:h.get? b = some o) (n:H b = none):(ZgC h H).get? b = some o :=
  PySem.W.hideAll_get _ e fun hm => by
    have q:(H b).isSome = true:=(List.mem_filter.mp hm).2
    rw [n] at q; simp at q
theorem Zhq {h:Heap} {H:Hp} {b:Addr} {o:Obj} (e:(ZgC h H).get? b = some o):h.get? b = some o ∧ H b = none:=by
  have e':h.get? b = some o:=PySem.W.of_hideAll (trk h H) e
  refine ⟨e',?_⟩
  cases q:H b with
  | none => rfl
  | some x =>
    have hm:b ∈ trk h H:=List.mem_filter.mpr ⟨List.mem_range.mpr (Heap.lt_size e'),by simp [q]⟩
    have z:(ZgC h H).get? b = none:=PySem.W.hideAll_none (trk h H) hm
    rw [z] at e; cases e
def Zhr (g h:Heap) (L:Addr):List (Addr × Obj):=(List.range h.objs.size).filterMap fun a => if a = L ∨ (g.get? a).isSome = true then none else (h.get? a).map fun o => (a,o)
def ZfF (g h:Heap) (L d:Addr):List (Addr × Obj):=(Zhr g h L).filter fun p => decide (p.1 ≠ d)
end L2
namespace L2
open PySem PySem.Spec PyProof.Rows
structure Mod (K:PySem.W.Frag) (mg:Str → Option Value) (base:Heap):Prop where
  kin:K.In base
  glob:base.Ns mainGlobals mg
  blt:∃ mb,base.Ns builtinsNs mb ∧ ∀ x:Str,x ≠ "__name__" → mb x = bootBuiltins x
  nolimit:base.NoLimit
structure Cx where
  prog:Program
  w:World
  K:PySem.W.Frag
  mg:Str → Option Value
  base:Heap
  A:Around
  N:List Str
  s₀:Shared
  H₀:Hp
  env:Env
  outer:List Env
  stack:List Env
  ex:List Addr
  fn:Str → Bool
  calm:Bool
  pn:List (Addr × Obj)
  xe:Value → Shared → Prop
def frs (l:List Env):List Addr:=l.filterMap (·.frame)
abbrev Cx.fs (X:Cx):List Addr:=frs X.outer
def Vis (sc:Scope) (x:Str):Prop:=sc.names.lookup x = some .local ∨ sc.names.lookup x = some .cell ∨ sc.names.lookup x = some .free
def Loc (sc:Scope) (x:Str):Prop:=sc.names.lookup x = some .local ∨ sc.names.lookup x = some .cell
def Zi9 (env:Env) (h:Heap) (m:Str → Option Value) (x:Str) (u:Value):Prop :=
  (env.kindOf x = some .local ∧ m x = some u) ∨ ((env.kindOf x = some .cell ∨ env.kindOf x = some .free) ∧ ∃ c,env.cells.lookup x = some c ∧ h.IsCell c (some u))
structure Cx.Ok (X:Cx):Prop where
  mod:Mod X.K X.mg X.base
  kind:X.env.scope.kind = .function
  glob:X.env.globals = mainGlobals
  blt:X.env.builtins = builtinsNs
  above:X.s₀.heap.objs.size ≤ X.env.locals
  inj:∀ x y c,X.env.cells.lookup x = some c → X.env.cells.lookup y = some c → x = y
  has:∀ x,(X.env.kindOf x = some .cell ∨ X.env.kindOf x = some .free) → ∃ c,X.env.cells.lookup x = some c
  cab:∀ x c,X.fn x = true → X.env.cells.lookup x = some c → X.s₀.heap.objs.size ≤ c
  hd:X.calm = true → X.A.handled = none
  frames:X.A.frames = some X.stack
  stk:X.stack = X.outer ∨ (X.stack = X.env :: X.outer ∧ X.env.frame = some X.env.locals)
  exf:∀ b ∈ X.ex,b ≠ X.env.locals ∧ ∀ x c,X.env.cells.lookup x = some c → c ≠ b
  bs:∀ b o,X.base.get? b = some o → X.s₀.heap.get? b = some o ∧ X.H₀ b = none
  bsz:X.base.objs.size ≤ X.s₀.heap.objs.size
  noex:∀ b o,X.base.get? b = some o → b ∉ X.ex
  exfs:∀ b ∈ X.ex,b ∉ X.fs
  funs:X.s₀.heap.FunFrames X.base X.outer
  frf:∀ b ∈ X.fs,X.H₀ b = none
structure Inv (X:Cx) (pins:List (Addr × Obj)) (σ:List (Option V)) (H:Hp) (s:Shared):Prop where
  ok:X.Ok
  os:s.os = X.s₀.os
  bare:AllBare s.gens
  base:Un X.fs X.ex X.H₀ H X.s₀.heap s.heap
  loc:∃ m,s.heap.Ns X.env.locals m ∧ ∀ (i:Nat) (x:Str) (v:V),X.N[i]? = some x → σ[i]? = some (some v) → Vis X.env.scope x → ∃ u,RelV v u ∧ Zi9 X.env s.heap m x u
  cell:∀ x c,X.env.cells.lookup x = some c → ∃ v,s.heap.IsCell c v
  free:H X.env.locals = none
  freeC:∀ x c,X.env.cells.lookup x = some c → H c = none
  pin:∀ p ∈ X.pn ++ pins,s.heap.get? p.1 = some p.2 ∧ H p.1 = none ∧ p.1 ≠ X.env.locals ∧ p.1 ∉ X.fs ∧ ∀ v,p.2.data ≠ .cell v
  hok:HOk X.prog X.w H s.heap
  len:σ.length = X.N.length
section
variable {X:Cx} {pins:List (Addr × Obj)} {σ:List (Option V)} {H H':Hp} {s:Shared} {h':Heap}
theorem Cx.Ok.nofr (ok:X.Ok) {b:Addr} {o:Obj} (e:X.base.get? b = some o):b ∉ X.fs:=fun hb => by
  have:=(ok.funs.mem hb).1
  rw [e] at this; cases this
theorem Inv.bs (I:Inv X pins σ H s):∀ b o,X.base.get? b = some o → s.heap.get? b = some o ∧ H b = none:=fun b o e =>
  ⟨I.base.keep b o (I.ok.bs b o e).1 (I.ok.bs b o e).2 (I.ok.nofr e) (I.ok.noex b o e),I.base.free b o (I.ok.bs b o e).1 (I.ok.bs b o e).2 (I.ok.noex b o e)⟩
theorem Inv.bk (I:Inv X pins σ H s):∀ b o,X.base.get? b = some o → s.heap.get? b = some o:=fun b o e => (I.bs b o e).1
theorem Inv.mod (I:Inv X pins σ H s):Mod X.K X.mg X.base:=I.ok.mod
theorem Inv.kIn (I:Inv X pins σ H s):X.K.In s.heap:=I.ok.mod.kin.keeps I.bk
theorem Inv.nolimit (I:Inv X pins σ H s):s.heap.NoLimit:=I.ok.mod.nolimit.keeps I.bk
theorem Inv.fr (I:Inv X pins σ H s):∃ m,Fr X.base X.env.locals s.heap m :=
  let ⟨m,hn,_⟩:=I.loc
  ⟨m,hn,I.bk,Nat.le_trans I.ok.bsz I.ok.above⟩
theorem Inv.lt (I:Inv X pins σ H s):X.env.locals < s.heap.objs.size:=let ⟨_,hn,_⟩:=I.loc; hn.lt
theorem Inv.sz (I:Inv X pins σ H s):X.s₀.heap.objs.size ≤ s.heap.objs.size:=Nat.le_trans I.ok.above (Nat.le_of_lt I.lt)
theorem Inv.nofs (I:Inv X pins σ H s) {a:Addr} (h:s.heap.objs.size ≤ a):a ∉ X.fs:=fun hb => by
  obtain ⟨_,o,ho,_⟩:=I.ok.funs.mem hb
  exact absurd (Nat.lt_of_lt_of_le (Heap.lt_size ho) (Nat.le_trans I.sz h)) (Nat.lt_irrefl _)
theorem Inv.cne (I:Inv X pins σ H s):∀ x c,X.env.cells.lookup x = some c → c ≠ X.env.locals:=fun x c e z => by
  obtain ⟨v,o,ho,hd⟩:=I.cell x c e
  obtain ⟨m,⟨o',es,ep,ho',hd',_⟩,_⟩:=I.loc
  rw [z,ho'] at ho; cases ho; rw [hd'] at hd; cases hd
theorem Inv.funs (I:Inv X pins σ H s):s.heap.FunFrames X.base X.outer:=by
  have all:∀ (l:List Env),(∀ b ∈ frs l,b ∈ X.fs) → X.s₀.heap.FunFrames X.base l → s.heap.FunFrames X.base l:=by
    intro l
    induction l with
    | nil => intro _ _; trivial
    | cons env r ih =>
      intro hs hl
      obtain ⟨hk,⟨L,o,hf,hn,ho,hd⟩,hr⟩:=hl
      have hL:L ∈ X.fs:=hs L (by unfold frs; rw [List.filterMap_cons,hf]; exact List.mem_cons_self)
      obtain ⟨sl,e⟩:=I.base.slot L o ho (I.ok.frf L hL) hL fun z => I.ok.exfs L z hL
      exact ⟨hk,⟨L,_,hf,hn,e,hd⟩,ih (fun b hb => hs b (by unfold frs; rw [List.filterMap_cons,hf]; exact List.mem_cons_of_mem _ hb)) hr⟩
  exact all X.outer (fun _ hb => hb) I.ok.funs
theorem Inv.stack (I:Inv X pins σ H s):s.heap.FunFrames X.base X.stack:=by
  rcases I.ok.stk with e | ⟨e,hf⟩
  · rw [e]; exact I.funs
  · rw [e]
    obtain ⟨m,hn,_⟩:=I.loc
    refine .cons (by rw [I.ok.kind]; decide) hf hn ?_ I.funs
    exact Heap.get?_none_of_le (Nat.le_trans I.ok.bsz I.ok.above)
theorem Inv.stkSub (I:Inv X pins σ H s):∀ b ∈ frs X.stack,b ∈ X.env.locals :: X.fs:=fun b hb => by
  rcases I.ok.stk with e | ⟨e,hf⟩
  · rw [e] at hb; exact List.mem_cons_of_mem _ hb
  · rw [e] at hb
    unfold frs at hb
    rw [List.filterMap_cons,hf] at hb
    exact hb
theorem Inv.stkFree (I:Inv X pins σ H s):∀ b ∈ frs X.stack,H b = none:=fun b hb => by
  rcases List.mem_cons.mp (I.stkSub b hb) with e | hb
  · rw [e]; exact I.free
  · obtain ⟨_,o,ho,_⟩:=I.ok.funs.mem hb
    exact I.base.free b o ho (I.ok.frf b hb) fun z => I.ok.exfs b z hb
theorem Inv.step {g':Array GenState} {t':Nat} {d':Drawn} {ch:List Addr} (I:Inv X pins σ H s)
    (hch:∀ b ∈ ch,(b ∈ X.ex ∨ X.s₀.heap.objs.size ≤ b) ∧ b ≠ X.env.locals ∧ (∀ x c,X.env.cells.lookup x = some c → c ≠ b) ∧ ∀ p ∈ X.pn ++ pins,p.1 ≠ b)
    (keep:∀ b o,b ≠ X.env.locals → b ∉ X.fs → b ∉ ch → s.heap.get? b = some o → H b = none → h'.get? b = some o)
    (slot:∀ b o,b ≠ X.env.locals → b ∈ X.fs → b ∉ ch → s.heap.get? b = some o → H b = none → ∃ sl,h'.get? b = some { o with slots:=sl }) (free:∀ b o,b ∉ ch → s.heap.get? b = some o → H b = none → H' b = none)
    (there:∀ b o,b ∉ ch → s.heap.get? b = some o → ∃ o',h'.get? b = some o')
    (tups:∀ b xs,H b = some (.tup xs) → H' b = some (.tup xs)) (frzs:∀ b o u,H b = some (.frz o u) → H' b = some (.frz o u)) (tbls:∀ b ps,H b = some (.tbl ps) → ∃ more,H' b = some (.tbl (ps ++ more)))
    (ns:∀ m,s.heap.Ns X.env.locals m → h'.Ns X.env.locals m) (hok:HOk X.prog X.w H' h') (hg:AllBare g') :
    Inv X pins σ H' { s with heap:=h',gens:=g',drawn:=d',toks:=t' }:=by
  have neL:∀ b o,X.s₀.heap.get? b = some o → b ≠ X.env.locals:=fun b o e => Nat.ne_of_lt (Nat.lt_of_lt_of_le (Heap.lt_size e) I.ok.above)
  have neC:∀ b o,X.s₀.heap.get? b = some o → b ∉ X.ex → b ∉ ch:=fun b o e hx hb => by
    rcases (hch b hb).1 with z | z
    · exact hx z
    · exact absurd (Nat.lt_of_lt_of_le (Heap.lt_size e) z) (Nat.lt_irrefl _)
  have cellK:∀ x c,X.env.cells.lookup x = some c → ∀ v,s.heap.IsCell c v → h'.IsCell c v:=fun x c e v ⟨o,ho,hd⟩ => by
    have nch:c ∉ ch:=fun z => (hch c z).2.2.1 x c e rfl
    by_cases hc:c ∈ X.fs
    · obtain ⟨sl,q⟩:=slot c o (I.cne x c e) hc nch ho (I.freeC x c e)
      exact ⟨_,q,hd⟩
    · exact ⟨o,keep c o (I.cne x c e) hc nch ho (I.freeC x c e),hd⟩
  refine ⟨I.ok,I.os,hg,⟨fun b o e n hb hx => ?_,fun b o e n hb hx => ?_,fun b o e n hx => ?_,fun b o e hx => ?_,fun b xs e => tups b xs (I.base.tups b xs e),fun b o xs e => frzs b o xs (I.base.frzs b o xs e),fun b ps e => ?_⟩,?_,fun x c e => ?_,?_,fun x c e => ?_,fun p hp => ?_,hok,I.len⟩
  · exact keep b o (neL b o e) hb (neC b o e hx) (I.base.keep b o e n hb hx) (I.base.free b o e n hx)
  · obtain ⟨sl,e1⟩:=I.base.slot b o e n hb hx
    obtain ⟨sl',e2⟩:=slot b _ (neL b o e) hb (neC b o e hx) e1 (I.base.free b o e n hx)
    exact ⟨sl',e2⟩
  · obtain ⟨o',e1⟩:=I.base.there b o e hx
    exact free b o' (neC b o e hx) e1 (I.base.free b o e n hx)
  · obtain ⟨o',e1⟩:=I.base.there b o e hx
    exact there b o' (neC b o e hx) e1
  · obtain ⟨m1,e1⟩:=I.base.tbls b ps e
    obtain ⟨m2,e2⟩:=tbls b _ e1
    exact ⟨m1 ++ m2,by rw [e2,Array.append_assoc]⟩
  · obtain ⟨m,hn,hl⟩:=I.loc
    refine ⟨m,ns m hn,fun i x v e1 e2 e3 => ?_⟩
    obtain ⟨u,r,l⟩:=hl i x v e1 e2 e3
    refine ⟨u,r,?_⟩
    rcases l with l | ⟨k,c,e,z⟩
    · exact .inl l
    · exact .inr ⟨k,c,e,cellK x c e _ z⟩
  · obtain ⟨v,z⟩:=I.cell x c e
    exact ⟨v,cellK x c e v z⟩
  · obtain ⟨m,⟨o,_,_,ho,_⟩,_⟩:=I.loc
    exact free _ o (fun z => (hch _ z).2.1 rfl) ho I.free
  · obtain ⟨v,o,ho,hd⟩:=I.cell x c e
    exact free c o (fun z => (hch c z).2.2.1 x c e rfl) ho (I.freeC x c e)
  · obtain ⟨e,n,ne,nf,d⟩:=I.pin p hp
    have nch:p.1 ∉ ch:=fun z => (hch p.1 z).2.2.2 p hp rfl
    exact ⟨keep p.1 p.2 ne nf nch e n,free p.1 p.2 nch e n,ne,nf,d⟩
theorem Inv.un {t':Nat} (I:Inv X pins σ H s) (u:Un X.fs [] H H' s.heap h') (hok:HOk X.prog X.w H' h'):Inv X pins σ H' { s with heap:=h',toks:=t' }:=by
  obtain ⟨m,⟨o,es,ep,ho,r⟩,_⟩:=id I.loc
  obtain ⟨sl,hL⟩:=u.any ho I.free (by simp)
  exact I.step (g':=s.gens) (d':=s.drawn) (ch:=[]) (fun _ z => nomatch z) (fun b o _ hb _ e n => u.keep b o e n hb (by simp)) (fun b o _ hb _ e n => u.slot b o e n hb (by simp)) (fun b o _ e n => u.free b o e n (by simp)) (fun b o _ e => u.there b o e (by simp)) u.tups u.frzs u.tbls (fun m' hm => by
    obtain ⟨o',es',ep',ho',r'⟩:=hm
    rw [ho] at ho'; cases ho'
    exact ⟨_,es',ep',hL,r'⟩) hok I.bare
theorem Inv.call {g':Array GenState} {t':Nat} {d':Drawn} {ch:List Addr} (I:Inv X pins σ H s) (u:Un (frs X.stack) ch H H' s.heap h') (hok:HOk X.prog X.w H' h') (hg:AllBare g')
    (hch:∀ b ∈ ch,(b ∈ X.ex ∨ X.s₀.heap.objs.size ≤ b) ∧ b ≠ X.env.locals ∧ (∀ x c,X.env.cells.lookup x = some c → c ≠ b) ∧ ∀ p ∈ X.pn ++ pins,p.1 ≠ b) :
    Inv X pins σ H' { s with heap:=h',gens:=g',drawn:=d',toks:=t' }:=by
  obtain ⟨m,⟨o,es,ep,ho,r⟩,_⟩:=id I.loc
  obtain ⟨sl,hL⟩:=u.any ho I.free fun z => (hch _ z).2.1 rfl
  exact I.step (ch:=ch) hch (fun b o hL hb hc e n => u.keep b o e n (fun z => (List.mem_cons.mp (I.stkSub b z)).elim hL hb) hc) (fun b o _ _ hc e n => u.any e n hc) (fun b o hc e n => u.free b o e n hc) (fun b o hc e => u.there b o e hc) u.tups u.frzs u.tbls (fun m' hm => by
    obtain ⟨o',es',ep',ho',r'⟩:=hm
    rw [ho] at ho'; cases ho'
    exact ⟨_,es',ep',hL,r'⟩) hok hg
theorem Inv.turned {t':Nat} {it:Addr} (I:Inv X pins σ H s) (k:∀ b o,b ≠ it → s.heap.get? b = some o → h'.get? b = some o) (hn:H it = none) (hL:it ≠ X.env.locals)
    (h1:it ∈ X.ex ∨ X.s₀.heap.objs.size ≤ it) (h2:∀ x c,X.env.cells.lookup x = some c → c ≠ it) (h3:∀ p ∈ X.pn ++ pins,p.1 ≠ it):Inv X pins σ H { s with heap:=h',toks:=t' }:=by
  have nit:∀ b u,H b = some u → b ≠ it:=fun b u e z => by rw [z,hn] at e; cases e
  refine I.step (g':=s.gens) (d':=s.drawn) (ch:=[it]) (fun b hb => ?_) (fun b o _ _ hc e _ => k b o (fun z => hc (by simp [z])) e) (fun b o _ _ hc e _ => ⟨o.slots,k b o (fun z => hc (by simp [z])) e⟩) (fun _ _ _ _ n => n)
    (fun b o hc e => ⟨o,k b o (fun z => hc (by simp [z])) e⟩) (fun _ _ e => e) (fun _ _ _ e => e) (fun b ps e => ⟨#[],by rw [e]; simp⟩) (fun m hm => ?_) (fun b u e => ?_) I.bare
  · have e:b = it:=by simpa using hb
    subst e
    exact ⟨h1,hL,h2,h3⟩
  · obtain ⟨o,es,ep,ho,r⟩:=hm
    exact ⟨o,es,ep,k _ o (Ne.symm hL) ho,r⟩
  · refine (I.hok b u e).stay (fun c v hc q => k c v ?_ q) (fun _ q => q) fun _ _ q => q
    rcases hc with z | z
    · rw [z]; exact nit b u e
    · exact nit c _ z
theorem Inv.tok (I:Inv X pins σ H s) (t:Nat):Inv X pins σ H { s with toks:=t }:=I.un (h':=s.heap) (t':=t) Un.refl I.hok
theorem Inv.kept {t':Nat} (I:Inv X pins σ H s) (k:∀ b u,s.heap.get? b = some u → h'.get? b = some u):Inv X pins σ H { s with heap:=h',toks:=t' }:=I.un (Un.kept k) (I.hok.kept k)
theorem Inv.laid {a:Addr} {o:HO} {t':Nat} (I:Inv X pins σ H s) (k:∀ b u,s.heap.get? b = some u → h'.get? b = some u) (hp:s.heap.objs.size ≤ a) (new:ObjOk X.prog X.w (upd H a o) h' a o) :
    Inv X pins σ (upd H a o) { s with heap:=h',toks:=t' }:=I.un (Un.laid k hp (I.hok.fresh hp)) (I.hok.laid k hp new)
theorem Inv.write {x e:Addr} {o:HO} {t':Nat} (I:Inv X pins σ H s) (mu:Mut (H x)) (he:e = x ∨ H e = some (.own x)) (k:∀ b u,b ≠ e → s.heap.get? b = some u → h'.get? b = some u) (heo:∃ u,h'.get? e = some u)
    (new:ObjOk X.prog X.w (upd H x o) h' x o):Inv X pins σ (upd H x o) { s with heap:=h',toks:=t' }:=I.un (Un.write mu he k heo) (I.hok.write mu he k heo new)
theorem Inv.weak {σ':List (Option V)} (I:Inv X pins σ H s) (hl:σ'.length = σ.length) (w:∀ (i:Nat) v,σ'[i]? = some (some v) → σ[i]? = some (some v)):Inv X pins σ' H s :=
  ⟨I.ok,I.os,I.bare,I.base,let ⟨m,hn,hl'⟩:=I.loc; ⟨m,hn,fun i x v e1 e2 e3 => hl' i x v e1 (w i v e2) e3⟩,I.cell,I.free,I.freeC,I.pin,I.hok,hl.trans I.len⟩
theorem Inv.pins_of {pins':List (Addr × Obj)} (I:Inv X pins σ H s) (h:∀ p ∈ pins',s.heap.get? p.1 = some p.2 ∧ H p.1 = none ∧ p.1 ≠ X.env.locals ∧ p.1 ∉ X.fs ∧ ∀ v,p.2.data ≠ .cell v):Inv X pins' σ H s :=
  ⟨I.ok,I.os,I.bare,I.base,I.loc,I.cell,I.free,I.freeC,fun p hp => (List.mem_append.mp hp).elim (fun z => I.pin p (List.mem_append_left _ z)) (h p),I.hok,I.len⟩
theorem ZeN {N:List Str} (hN:N.Nodup) {i j:Nat} {x:Str} (a:N[i]? = some x) (b:N[j]? = some x):i = j:=by
  obtain ⟨h1,e1⟩:=List.getElem?_eq_some_iff.mp a
  obtain ⟨h2,e2⟩:=List.getElem?_eq_some_iff.mp b
  exact (List.getElem_inj hN).mp (e1.trans e2.symm)
theorem ZdK {M:Model} {A:Around} {E:Value → Shared → Prop} {i:Nat} {x:Str} {v:V} {u:Value} {Q:Unit → Shared → Prop} (I:Inv X pins σ H s) (hN:X.N.Nodup) (hi:X.N[i]? = some x) (hx:Loc X.env.scope x) (r:RelV v u)
    (h:∀ s',Inv X pins (σ.set i (some v)) H s' → (∃ a,Heap.SameBut a s.heap s'.heap ∧ (a = X.env.locals ∨ X.env.cells.lookup x = some a)) → Q () s') (hf:X.fn x = true ∨ X.env.scope.names.lookup x = some .local:=by first | exact .inl rfl | exact .inr rfl | assumption):wpAny M A (storeName X.env x u) Q E s:=by
  obtain ⟨m,hn,hl⟩:=id I.loc
  have hcls:(X.env.scope.kind == .class || (X.env.scope.kind == .module && X.env.locals != X.env.globals)) = false:=by rw [I.ok.kind]; rfl
  have hiσ:i < σ.length:=by rw [I.len]; exact (List.getElem?_eq_some_iff.mp hi).1
  have cne:=I.cne
  have tracked:∀ {a:Addr} {h':Heap},(∃ o,s.heap.get? a = some o ∧ H a = none) → Heap.SameBut a s.heap h' → HOk X.prog X.w H h':=fun {a h'} ha hs b ob e => by
    obtain ⟨_,_,hfree⟩:=ha
    refine (I.hok b ob e).stay (fun c w' hc q => (hs.2 c ?_).trans q) (fun _ q => q) fun _ _ q => q
    rintro rfl
    rcases hc with rfl | hc
    · rw [hfree] at e; cases e
    · rw [hfree] at hc; cases hc
  rcases hx with hk | hk
  · refine wpAny_storeName_local hk hn (fun h' hn' hs => ?_) hcls
    obtain ⟨oL,_,_,hoL,_⟩:=id hn
    refine h _ ⟨I.ok,I.os,I.bare,⟨fun b o e n hb hx => ?_,fun b o e n hb hx => ?_,I.base.free,fun b o e hx => ?_,I.base.tups,I.base.frzs,I.base.tbls⟩,⟨_,hn',fun j y v' e1 e2 e3 => ?_⟩,fun y c e => ?_,I.free,I.freeC,fun p hp => ?_,tracked ⟨oL,hoL,I.free⟩ hs,by simpa using I.len⟩ ⟨_,hs,.inl rfl⟩
    · exact (hs.2 b (Nat.ne_of_lt (Nat.lt_of_lt_of_le (Heap.lt_size e) I.ok.above))).trans (I.base.keep b o e n hb hx)
    · obtain ⟨sl,e1⟩:=I.base.slot b o e n hb hx
      exact ⟨sl,(hs.2 b (Nat.ne_of_lt (Nat.lt_of_lt_of_le (Heap.lt_size e) I.ok.above))).trans e1⟩
    · obtain ⟨o',e1⟩:=I.base.there b o e hx
      exact ⟨o',(hs.2 b (Nat.ne_of_lt (Nat.lt_of_lt_of_le (Heap.lt_size e) I.ok.above))).trans e1⟩
    · by_cases hj:j = i
      · subst hj
        rw [hi] at e1; cases e1
        rw [List.getElem?_set_self hiσ] at e2
        cases e2
        exact ⟨u,r,.inl ⟨hk,by simp⟩⟩
      · rw [List.getElem?_set_ne (Ne.symm hj)] at e2
        obtain ⟨u',r',q⟩:=hl j y v' e1 e2 e3
        refine ⟨u',r',?_⟩
        rcases q with ⟨k,e⟩ | ⟨k,c,e,z⟩
        · refine .inl ⟨k,?_⟩
          have:y ≠ x:=fun e => hj (ZeN hN e1 (e ▸ hi))
          simp [this,e]
        · exact .inr ⟨k,c,e,z.sameBut hs (cne y c e)⟩
    · obtain ⟨w',z⟩:=I.cell y c e
      exact ⟨w',z.sameBut hs (cne y c e)⟩
    · obtain ⟨e,n,ne,nf,d⟩:=I.pin p hp
      exact ⟨(hs.2 p.1 ne).trans e,n,ne,nf,d⟩
  · have hfn:X.fn x = true:=by
      rcases hf with z | z
      · exact z
      · rw [z] at hk; cases hk
    obtain ⟨c,hc⟩:=I.ok.has x (.inl hk)
    obtain ⟨w',z⟩:=I.cell x c hc
    refine wpAny_storeName_cell I.ok.kind hk hc z (fun h' hc' hs => ?_)
    obtain ⟨oc,hoc,hocd⟩:=id z
    refine h { s with heap:=h' } ⟨I.ok,I.os,I.bare,⟨fun b o e n hb hx => ?_,fun b o e n hb hx => ?_,I.base.free,fun b o e hx => ?_,I.base.tups,I.base.frzs,I.base.tbls⟩,⟨m,hn.sameBut hs (Ne.symm (cne x c hc)),fun j y v' e1 e2 e3 => ?_⟩,fun y c' e => ?_,I.free,I.freeC,fun p hp => ?_,tracked ⟨oc,hoc,I.freeC x c hc⟩ hs,by simpa using I.len⟩ ⟨c,hs,.inr hc⟩
    · exact (hs.2 b (Nat.ne_of_lt (Nat.lt_of_lt_of_le (Heap.lt_size e) (I.ok.cab x c hfn hc)))).trans (I.base.keep b o e n hb hx)
    · obtain ⟨sl,e1⟩:=I.base.slot b o e n hb hx
      exact ⟨sl,(hs.2 b (Nat.ne_of_lt (Nat.lt_of_lt_of_le (Heap.lt_size e) (I.ok.cab x c hfn hc)))).trans e1⟩
    · obtain ⟨o',e1⟩:=I.base.there b o e hx
      exact ⟨o',(hs.2 b (Nat.ne_of_lt (Nat.lt_of_lt_of_le (Heap.lt_size e) (I.ok.cab x c hfn hc)))).trans e1⟩
    · by_cases hj:j = i
      · subst hj
        rw [hi] at e1; cases e1
        rw [List.getElem?_set_self hiσ] at e2
        cases e2
        exact ⟨u,r,.inr ⟨.inl hk,c,hc,hc'⟩⟩
      · rw [List.getElem?_set_ne (Ne.symm hj)] at e2
        obtain ⟨u',r',q⟩:=hl j y v' e1 e2 e3
        refine ⟨u',r',?_⟩
        rcases q with q | ⟨k,c',e,z'⟩
        · exact .inl q
        · refine .inr ⟨k,c',e,z'.sameBut hs ?_⟩
          rintro rfl
          exact hj (ZeN hN e1 (I.ok.inj _ _ _ e hc ▸ hi))
    · by_cases hcc:c' = c
      · subst hcc; exact ⟨_,hc'⟩
      · obtain ⟨w2,z2⟩:=I.cell y c' e
        exact ⟨w2,z2.sameBut hs hcc⟩
    · obtain ⟨e,n,ne,nf,d⟩:=I.pin p hp
      refine ⟨(hs.2 p.1 ?_).trans e,n,ne,nf,d⟩
      intro q
      rw [q,hoc] at e
      have q':oc = p.2:=Option.some.inj e
      exact d w' (by rw [← q']; exact hocd)
theorem ZbB {M:Model} {A:Around} {E:Value → Shared → Prop} {i:Nat} {x:Str} {v:V} {u:Value} {Q:Unit → Shared → Prop} (I:Inv X pins σ H s) (hN:X.N.Nodup) (hi:X.N[i]? = some x) (hx:Loc X.env.scope x) (r:RelV v u)
    (h:∀ s',Inv X pins (σ.set i (some v)) H s' → Q () s') (hf:X.fn x = true ∨ X.env.scope.names.lookup x = some .local:=by first | exact .inl rfl | exact .inr rfl | assumption):wpAny M A (storeName X.env x u) Q E s :=
  ZdK I hN hi hx r (fun s' I' _ => h s' I') hf
theorem Inv.call' {s':Shared} {ch:List Addr} (I:Inv X pins σ H s) (ho:s'.os = s.os) (u:Un (frs X.stack) ch H H' s.heap s'.heap) (hok:HOk X.prog X.w H' s'.heap) (hg:AllBare s'.gens)
    (hch:∀ b ∈ ch,(b ∈ X.ex ∨ X.s₀.heap.objs.size ≤ b) ∧ b ≠ X.env.locals ∧ (∀ x c,X.env.cells.lookup x = some c → c ≠ b) ∧ ∀ p ∈ X.pn ++ pins,p.1 ≠ b):Inv X pins σ H' s':=by
  obtain ⟨h',g',d',t',o'⟩:=s'
  have e:o' = s.os:=ho
  subst e
  exact I.call (g':=g') (t':=t') (d':=d') u hok hg hch
end
abbrev XK:=Value → Option Addr → Hp → Prop
abbrev St:=List (Option V)
abbrev VK:=V → Hp → Prop
abbrev TE:=St → Hp → VK → Prop
abbrev TT:=St → Hp → (Bool → Hp → Prop) → Prop
abbrev TA:=St → Hp → (List V → Hp → Prop) → Prop
structure Ends where
  nx:St → Hp → Prop
  rt:VK
  bk:St → Hp → Prop:=fun _ _ => False
  ct:St → Hp → Prop:=fun _ _ => False
abbrev TS:=Ends → St → Hp → Prop
def EP (X:Cx) (pins:List (Addr × Obj)) (σ:St) (Q:VK) (u:Value) (s':Shared):Prop:=∃ v H',Inv X pins σ H' s' ∧ RelV v u ∧ Q v H'
def TP (X:Cx) (pins:List (Addr × Obj)) (σ:St) (Q:Bool → Hp → Prop) (b:Bool) (s':Shared):Prop:=∃ H',Inv X pins σ H' s' ∧ Q b H'
def AP (X:Cx) (pins:List (Addr × Obj)) (σ:St) (Q:List V → Hp → Prop) (us:List Value) (s':Shared):Prop:=∃ vs H',Inv X pins σ H' s' ∧ Vals vs us ∧ Q vs H'
def SP (X:Cx) (pins:List (Addr × Obj)) (D:Ends) (f:Flow) (s':Shared):Prop :=
  match f with
  | .next => ∃ σ' H',Inv X pins σ' H' s' ∧ D.nx σ' H'
  | .brk => ∃ σ' H',Inv X pins σ' H' s' ∧ D.bk σ' H'
  | .cont => ∃ σ' H',Inv X pins σ' H' s' ∧ D.ct σ' H'
  | .ret u => ∃ v σ' H',Inv X pins σ' H' s' ∧ RelV v u ∧ D.rt v H'
def PE (X:Cx) (e:Expr) (t:TE):Prop :=
  ∀ (pins:List (Addr × Obj)) (s:Shared) (σ:St) (H:Hp) (Q:VK),Inv X pins σ H s → t σ H Q → wpAny (model X.prog X.w) X.A (eval e X.env) (EP X pins σ Q) X.xe s
def PT (X:Cx) (e:Expr) (t:TT):Prop :=
  ∀ (pins:List (Addr × Obj)) (s:Shared) (σ:St) (H:Hp) (Q:Bool → Hp → Prop),Inv X pins σ H s → t σ H Q → wpAny (model X.prog X.w) X.A (isTrue e X.env (eval e X.env)) (TP X pins σ Q) X.xe s
def PW (X:Cx) (e:Expr) (t:TT):Prop :=
  ∀ (whole:Sem Value) (pins:List (Addr × Obj)) (s:Shared) (σ:St) (H:Hp) (Q:Bool → Hp → Prop),Inv X pins σ H s → t σ H Q → wpAny (model X.prog X.w) X.A (isTrue e X.env whole) (TP X pins σ Q) X.xe s
theorem PW.pt {X:Cx} {e:Expr} {t:TT} (h:PW X e t):PT X e t:=h _
def PA (X:Cx) (es:List Expr) (t:TA):Prop :=
  ∀ (pos:Pos) (pins:List (Addr × Obj)) (s:Shared) (σ:St) (H:Hp) (Q:List V → Hp → Prop),Inv X pins σ H s → t σ H Q → wpAny (model X.prog X.w) X.A (spliced (backTo pos (starEach es X.env))) (AP X pins σ Q) X.xe s
def PS (X:Cx) (st:Stmt) (t:TS):Prop :=
  ∀ (pins:List (Addr × Obj)) (s:Shared) (σ:St) (H:Hp) (D:Ends),Inv X pins σ H s → t D σ H → wpAny (model X.prog X.w) X.A (exec st X.env) (SP X pins D) X.xe s
def PSs (X:Cx) (st:List Stmt) (t:TS):Prop :=
  ∀ (pins:List (Addr × Obj)) (s:Shared) (σ:St) (H:Hp) (D:Ends),Inv X pins σ H s → t D σ H → wpAny (model X.prog X.w) X.A (execs st X.env) (SP X pins D) X.xe s
theorem thn {α:Type} {t:Sem α} {Q Q':α → Shared → Prop} {M:Model} {A:Around} {E:Value → Shared → Prop} {s:Shared} (h:wpAny M A t Q E s) (hQ:∀ a s,Q a s → Q' a s):wpAny M A t Q' E s:=wpAny_mono h hQ fun _ _ x => x
end L2
namespace L2
open PySem PySem.Spec PyProof.Rows
section
variable {X:Cx}
def Zja (i:Nat):TE:=fun σ H Q => ∃ v,σ[i]? = some (some v) ∧ Q v H
def tC (v:V):TE:=fun _ H Q => Q v H
theorem Zh5 {i:Nat} {x:Str} {pos:Pos} (hN:X.N[i]? = some x) (hv:Vis X.env.scope x) (hd:(x == ("__debug__" : Str)) = false:=by decide) (hcd:(x == ("__classdict__" : Str)) = false:=by decide):PE X (.Name x pos) (Zja i):=by
  intro pins s σ H Q I h
  obtain ⟨v,e,h⟩:=h
  obtain ⟨m,hn,hl⟩:=I.loc
  obtain ⟨u,r,l⟩:=hl i x v hN e hv
  have fin:EP X pins σ Q u s:=⟨v,H,I,r,h⟩
  rcases l with ⟨hk,hm⟩ | ⟨hk,c,hc,hcell⟩
  · exact wpAny_Name (wpAny_loadName_local I.ok.kind hk hn hm fin) hd
  · rcases hk with hk | hk
    · exact wpAny_Name (wpAny_loadName_cell I.ok.kind hk hc hcell fin) hd
    · exact wpAny_Name (wpAny_loadName_free I.ok.kind hk hc hcell fin hcd) hd
theorem Zad {i j pos}:PE X (.Constant (.int i) j pos) (tC (.int i)):=fun _ _ _ H _ I h => wpAny_Constant_int ⟨.int i,H,I.tok _,⟨_,rfl⟩,h⟩
theorem Zcp {b j pos}:PE X (.Constant (.bool b) j pos) (tC (.bl b)):=fun _ _ _ H _ I h => Constant_bool ⟨.bl b,H,I,rfl,h⟩
theorem ZaM {j pos}:PE X (.Constant .none j pos) (tC .non):=fun _ _ _ H _ I h => Constant_none ⟨.non,H,I,rfl,h⟩
theorem Zax {x j pos}:PE X (.Constant (.str x) j pos) (tC (.str x)):=fun _ _ _ H _ I h => Calls.Constant_str ⟨.str x,H,I.tok _,⟨_,rfl⟩,h⟩
def Gl (X:Cx) (x:Str):Prop:=X.env.kindOf x = some .globalImplicit
theorem ZbJ {E:Value → Shared → Prop} {pins:List (Addr × Obj)} {s:Shared} {σ:St} {H:Hp} {x:Str} {u:Value} {pos:Pos} {Q:Value → Shared → Prop} (I:Inv X pins σ H s) (hg:Gl X x) (hm:X.mg x = some u) (h:Q u s)
    (hd:(x == ("__debug__" : Str)) = false:=by decide):wpAny (model X.prog X.w) X.A (eval (.Name x pos) X.env) Q E s :=
  Calls.Name_function_global I.ok.kind hg (Calls.loadGlobal_global (by rw [I.ok.glob]; exact I.mod.glob.keeps I.bk) hm h) hd
theorem ZdL {E:Value → Shared → Prop} {pins:List (Addr × Obj)} {s:Shared} {σ:St} {H:Hp} {x:Str} {u:Value} {pos:Pos} {Q:Value → Shared → Prop} (I:Inv X pins σ H s) (hg:Gl X x) (hm:X.mg x = none) (hv:bootBuiltins x = some u) (h:Q u s)
    (hn:x ≠ "__name__" := by decide) (hd:(x == ("__debug__" : Str)) = false:=by decide):wpAny (model X.prog X.w) X.A (eval (.Name x pos) X.env) Q E s:=by
  obtain ⟨mb,h1,h2⟩:=I.mod.blt
  exact Calls.Name_function_global I.ok.kind hg (Calls.loadGlobal_builtin (by rw [I.ok.glob]; exact I.mod.glob.keeps I.bk) hm (by rw [I.ok.blt]; exact h1.keeps I.bk) ((h2 x hn).trans hv) h) hd
theorem ZaH {x:Str} {v:V} {u:Value} {pos:Pos} (hg:Gl X x) (hm:X.mg x = some u) (r:RelV v u) (hd:(x == ("__debug__" : Str)) = false:=by decide):PE X (.Name x pos) (tC v) :=
  fun _ _ _ H _ I h => ZbJ I hg hm ⟨v,H,I,r,h⟩ hd
theorem Zhs {x:Str} {v:V} {u:Value} {pos:Pos} (hg:Gl X x) (hm:X.mg x = none) (hv:bootBuiltins x = some u) (r:RelV v u) (hn:x ≠ "__name__" := by decide) (hd:(x == ("__debug__" : Str)) = false:=by decide):PE X (.Name x pos) (tC v) :=
  fun _ _ _ H _ I h => ZdL I hg hm hv ⟨v,H,I,r,h⟩ hn hd
variable {a b:Expr} {ta tb:TE} {pos:Pos}
def tB (t:TE):TT:=fun σ H Q => t σ H fun x H1 => ∃ c,x = .bl c ∧ Q c H1
theorem ZaN {e:Expr} {t:TE} (h:PE X e t) (he:∀ whole,isTrue e X.env whole = (do let v ← whole; standAt e.pos; holding [v] (truthy v)):=by intro _; rfl):PT X e (tB t):=by
  intro pins s σ H Q I hw
  refine isTrue_plain (thn (h pins s σ H _ I hw) fun v s1 ⟨x,H1,I1,r1,q1⟩ => ?_) (he _)
  obtain ⟨d,rfl,q⟩:=q1
  cases r1
  exact wpAny_truthy_bool ⟨H1,I1,q⟩
variable {tA tB':TT} {ZfF:List Expr}
def Zh6 (t u:TT):TT:=fun σ H Q => t σ H fun c H1 => if c = true then u σ H1 Q else Q false H1
def tOr (t u:TT):TT:=fun σ H Q => t σ H fun c H1 => if c = true then Q true H1 else u σ H1 Q
def Zjk (t:TT):TT:=fun σ H Q => t σ H fun c H1 => Q (!c) H1
theorem Zb2 (ha:PT X a tA):PW X (.BoolOp .And [a] pos) tA:=by
  intro wh pins s σ H Q I h
  refine isTrue_and (thn (ha pins s σ H Q I h) fun c s1 e => ?_)
  cases c with
  | true => exact isTrue_and_nil e
  | false => exact e
theorem Zbf (ha:PT X a tA):PW X (.BoolOp .Or [a] pos) tA:=by
  intro wh pins s σ H Q I h
  refine isTrue_or (thn (ha pins s σ H Q I h) fun c s1 e => ?_)
  cases c with
  | false => exact isTrue_or_nil e
  | true => exact e
theorem Zc7 (ha:PT X a tA) (hb:PW X (.BoolOp .And (b :: ZfF) pos) tB'):PW X (.BoolOp .And (a :: b :: ZfF) pos) (Zh6 tA tB'):=by
  intro wh pins s σ H Q I h
  refine isTrue_and (thn (ha pins s σ H _ I h) fun c s1 ⟨H1,I1,q1⟩ => ?_)
  cases c with
  | true => exact hb wh pins s1 σ H1 Q I1 q1
  | false => exact ⟨H1,I1,q1⟩
theorem ZbK (ha:PT X a tA) (hb:PW X (.BoolOp .Or (b :: ZfF) pos) tB'):PW X (.BoolOp .Or (a :: b :: ZfF) pos) (tOr tA tB'):=by
  intro wh pins s σ H Q I h
  refine isTrue_or (thn (ha pins s σ H _ I h) fun c s1 ⟨H1,I1,q1⟩ => ?_)
  cases c with
  | true => exact ⟨H1,I1,q1⟩
  | false => exact hb wh pins s1 σ H1 Q I1 q1
theorem ZaQ (ha:PT X a tA):PT X (.UnaryOp .Not a pos) (Zjk tA):=by
  intro pins s σ H Q I h
  exact isTrue_not (ha pins s σ H (fun c H1 => Q (!c) H1) I h)
def ZiR (ta tb:TE):TE:=fun σ H Q => ta σ H fun x H1 => ∃ c,x = .bl c ∧ if c = true then tb σ H1 Q else Q (.bl false) H1
def ZiS (ta:TE):TE:=fun σ H Q => ta σ H fun x H1 => ∃ c,x = .bl c ∧ Q (.bl (!c)) H1
theorem Zcg {op} {t:TE} (h:PE X a t):PE X (.BoolOp op [a] pos) t:=fun pins s σ H Q I hw => BoolOp_one (h pins s σ H Q I hw)
theorem ZbS (ha:PE X a ta) (hb:PE X (.BoolOp .And (b :: ZfF) pos) tb):PE X (.BoolOp .And (a :: b :: ZfF) pos) (ZiR ta tb):=by
  intro pins s σ H Q I h
  refine BoolOp_and (thn (ha pins s σ H _ I h) fun v s1 ⟨x,H1,I1,r1,q1⟩ => ?_)
  obtain ⟨c,rfl,q1⟩:=q1
  cases r1
  refine wpAny_truthy_bool ?_
  cases c with
  | true => exact hb pins s1 σ H1 Q I1 q1
  | false => exact ⟨.bl false,H1,I1,rfl,q1⟩
theorem ZfG (ha:PE X a ta):PE X (.UnaryOp .Not a pos) (ZiS ta):=by
  intro pins s σ H Q I h
  refine UnaryOp_ (thn (ha pins s σ H _ I h) fun v s1 ⟨x,H1,I1,r1,q1⟩ => ?_)
  obtain ⟨c,rfl,q1⟩:=q1
  cases r1
  exact not_of (wpAny_truthy_bool ⟨.bl (!c),H1,I1,rfl,q1⟩)
def tIf (t:TT) (ta tb:TE):TE:=fun σ H Q => t σ H fun c H1 => if c = true then ta σ H1 Q else tb σ H1 Q
theorem ZeO {c:Expr} (hc:PT X c tA) (ha:PE X a ta) (hb:PE X b tb):PE X (.IfExp c a b pos) (tIf tA ta tb):=by
  intro pins s σ H Q I h
  refine wpAny_IfExp (thn (hc pins s σ H _ I h) fun d s1 ⟨H1,I1,q1⟩ => ?_)
  cases d with
  | true => exact ha pins s1 σ H1 Q I1 q1
  | false => exact hb pins s1 σ H1 Q I1 q1
end
end L2
namespace L2
open PySem PySem.Spec PyProof.Rows
def SqL (K:PySem.W.Frag) (H:Hp) (a:Addr) (xs:List V):Prop :=
  Rd H a (.lst xs) ∨
    ∃ (o:Obj) (its:Array Value) (n:Nat),K.lookup a = some o ∧ o.cls = .type "list" ∧ o.dict = none ∧ o.data = .seq its n ∧ its.size ≤ sizeLine ∧ Vals xs its.toList
def SqT (K:PySem.W.Frag) (H:Hp) (a:Addr) (xs:List V):Prop :=
  Rd H a (.tup xs) ∨
    ∃ (o:Obj) (its:Array Value) (n:Nat),K.lookup a = some o ∧ o.cls = .type "tuple" ∧ o.data = .seq its n ∧ its.size ≤ sizeLine ∧ Vals xs its.toList
def Zjl:Value → Option V
  | .none => some .non
  | .bool b => some (.bl b)
  | .int i _ => some (.int i)
  | .str x _ => some (.str x)
  | .bytes b _ => some (.byt b)
  | .float b _ => some (.flt b)
  | .ref a => some (.ref a)
  | .type n => some (.ty n)
  | _ => none
theorem RelV.abs {x:V} {u:Value} (r:RelV x u):Zjl u = some x:=by
  cases x with
  | non => cases r; rfl
  | bl _ => cases r; rfl
  | int _ => obtain ⟨t,rfl⟩:=r; rfl
  | str _ => obtain ⟨t,rfl⟩:=r; rfl
  | byt _ => obtain ⟨t,rfl⟩:=r; rfl
  | flt _ => obtain ⟨t,rfl⟩:=r; rfl
  | ref _ => cases r; rfl
  | ty _ => cases r; rfl
theorem RelV.inj {x y:V} {u:Value} (r:RelV x u) (q:RelV y u):x = y:=Option.some.inj (r.abs.symm.trans q.abs)
theorem Vals.inj:∀ {xs ys:List V} {us:List Value},Vals xs us → Vals ys us → xs = ys
  | _,_,_,.nil,.nil => rfl
  | _,_,_,.cons r t,.cons r' t' => by rw [r.inj r',Vals.inj t t']
section
variable {X:Cx} {pins:List (Addr × Obj)} {σ:St} {H:Hp} {s:Shared} {a:Addr} {xs ys:List V}
theorem SqL.of {K:PySem.W.Frag} (h:H a = some (.lst xs)):SqL K H a xs:=.inl (.inl h)
theorem SqT.of {K:PySem.W.Frag} (h:H a = some (.tup xs)):SqT K H a xs:=.inl (.inl h)
theorem Inv.list (I:Inv X pins σ H s) (h:SqL X.K H a xs):∃ its:List Value,Vals xs its ∧ PlainL s.heap a its.toArray ∧ xs.length ≤ sizeLine:=by
  rcases h with h | ⟨o,its,n,hk,hc,hd,hs,hz,r⟩
  · obtain ⟨z,its,n,r,e⟩:=h.ok I.hok
    exact ⟨its,r,⟨_,n,e,rfl,rfl,rfl⟩,z⟩
  · refine ⟨its.toList,r,⟨o,n,I.kIn a o hk,hc,hd,by simpa using hs⟩,?_⟩
    have e:=r.length
    simp only [Array.length_toList] at e
    omega
theorem Inv.tuple (I:Inv X pins σ H s) (h:SqT X.K H a xs):∃ its:List Value,Vals xs its ∧ IsTup s.heap a its.toArray ∧ xs.length ≤ sizeLine:=by
  rcases h with h | ⟨o,its,n,hk,hc,hs,hz,r⟩
  · obtain ⟨z,its,r,p⟩:=h.ok I.hok
    exact ⟨its,r,p,z⟩
  · refine ⟨its.toList,r,⟨o,I.kIn a o hk,hc,n,by simpa using hs⟩,?_⟩
    have e:=r.length
    simp only [Array.length_toList] at e
    omega
theorem Inv.list_inj (I:Inv X pins σ H s) (h:SqL X.K H a xs) (h':SqL X.K H a ys):xs = ys:=by
  obtain ⟨its,r,⟨o,n,e,_,_,d⟩,_⟩:=I.list h
  obtain ⟨its',r',⟨o',n',e',_,_,d'⟩,_⟩:=I.list h'
  rw [e] at e'; cases e'
  rw [d] at d'
  injection d' with d1 _
  have:its = its':=by simpa using congrArg Array.toList d1
  subst this
  exact r.inj r'
end
abbrev Cx.wish (X:Cx) (E:Value → Shared → Prop):Cx:={ X with xe:=E }
abbrev Cx.nox (X:Cx):Cx:=X.wish fun _ _ => False
theorem Cx.Ok.wish {X:Cx} (ok:X.Ok) (E:Value → Shared → Prop):(X.wish E).Ok :=
  ⟨ok.mod,ok.kind,ok.glob,ok.blt,ok.above,ok.inj,ok.has,ok.cab,ok.hd,ok.frames,ok.stk,ok.exf,ok.bs,ok.bsz,ok.noex,ok.exfs,ok.funs,ok.frf⟩
theorem Cx.Ok.unwish {X:Cx} {E:Value → Shared → Prop} (ok:(X.wish E).Ok):X.Ok :=
  ⟨ok.mod,ok.kind,ok.glob,ok.blt,ok.above,ok.inj,ok.has,ok.cab,ok.hd,ok.frames,ok.stk,ok.exf,ok.bs,ok.bsz,ok.noex,ok.exfs,ok.funs,ok.frf⟩
section
variable {X:Cx} {pins:List (Addr × Obj)} {σ:St} {H:Hp} {s:Shared} {E:Value → Shared → Prop}
theorem Inv.wish (I:Inv X pins σ H s) (E:Value → Shared → Prop):Inv (X.wish E) pins σ H s:=⟨I.ok.wish E,I.os,I.bare,I.base,I.loc,I.cell,I.free,I.freeC,I.pin,I.hok,I.len⟩
theorem Inv.unwish (I:Inv (X.wish E) pins σ H s):Inv X pins σ H s:=⟨I.ok.unwish,I.os,I.bare,I.base,I.loc,I.cell,I.free,I.freeC,I.pin,I.hok,I.len⟩
theorem SP.unwish {D:Ends} {f:Flow} {s':Shared} (h:SP (X.wish E) pins D f s'):SP X pins D f s':=by
  cases f with
  | next => obtain ⟨σ',H',I,q⟩:=h; exact ⟨σ',H',I.unwish,q⟩
  | brk => obtain ⟨σ',H',I,q⟩:=h; exact ⟨σ',H',I.unwish,q⟩
  | cont => obtain ⟨σ',H',I,q⟩:=h; exact ⟨σ',H',I.unwish,q⟩
  | ret u => obtain ⟨v,σ',H',I,r,q⟩:=h; exact ⟨v,σ',H',I.unwish,r,q⟩
theorem PE.nox {e:Expr} {t:TE} (h:PE X.nox e t):PE X e t:=fun pins s σ H Q I hw =>
  wpAny_mono (h pins s σ H Q (I.wish _) hw) (fun _ _ ⟨v,H',I',r,q⟩ => ⟨v,H',I'.unwish,r,q⟩) fun _ _ z => False.elim z
theorem PT.nox {e:Expr} {t:TT} (h:PT X.nox e t):PT X e t:=fun pins s σ H Q I hw =>
  wpAny_mono (h pins s σ H Q (I.wish _) hw) (fun _ _ ⟨H',I',q⟩ => ⟨H',I'.unwish,q⟩) fun _ _ z => False.elim z
theorem PSs.nox {st:List Stmt} {t:TS} (h:PSs X.nox st t):PSs X st t:=fun pins s σ H D I hw =>
  wpAny_mono (h pins s σ H D (I.wish _) hw) (fun _ _ q => q.unwish) fun _ _ z => False.elim z
end
section
variable {X:Cx} {st:Stmt} {ZfF:List Stmt} {t u:TS} {e:Expr} {te:TE} {pos:Pos}
def Zh7:TS:=fun D σ H => D.nx σ H
def Zht (t u:TS):TS:=fun D σ H => t { D with nx:=u D } σ H
theorem Zaj:PSs X [] Zh7:=fun _ _ σ H _ I h => wpAny_execs_nil ⟨σ,H,I,h⟩
theorem Zab (h1:PS X st t) (h2:PSs X ZfF u):PSs X (st :: ZfF) (Zht t u):=by
  intro pins s σ H D I h
  refine wpAny_execs_cons (thn (h1 pins s σ H { D with nx:=u D } I h) fun f s1 q => ?_)
  cases f with
  | next =>
    obtain ⟨σ',H',I',q⟩:=q
    exact h2 pins s1 σ' H' D I' q
  | ret v => exact q
  | brk => exact q
  | cont => exact q
theorem Zae (h1:PS X st t):PSs X [st] t:=by
  intro pins s σ H D I h
  refine wpAny_execs_cons (thn (h1 pins s σ H D I h) fun f s1 q => ?_)
  cases f with
  | next => exact wpAny_execs_nil q
  | ret v => exact q
  | brk => exact q
  | cont => exact q
theorem Inv.quiet {pins:List (Addr × Obj)} {σ:St} {H:Hp} {s:Shared} (I:Inv X pins σ H s):interactive X.env = false:=by simp [interactive,I.ok.kind]
def ZiT (te:TE):TS:=fun D σ H => te σ H fun _ H1 => D.nx σ H1
theorem Zcz (he:PE X e te) (hs:swapsWith e none pos.line X.env = pure false:=by rfl):PS X (.Expr e pos) (ZiT te):=by
  intro pins s σ H D I h
  exact wpAny_Expr_any (thn (he pins s σ H _ I h) fun v s1 ⟨x,H1,I1,r1,q1⟩ => ⟨σ,H1,I1,q1⟩) I.quiet hs
def Zjm (te:TE):TS:=fun D σ H => te σ H D.rt
theorem Zal (he:PE X e te):PS X (.Return (some e) pos) (Zjm te):=by
  intro pins s σ H D I h
  exact wpAny_Return_some (thn (he pins s σ H _ I h) fun v s1 ⟨x,H1,I1,r1,q1⟩ => ⟨x,σ,H1,I1,r1,q1⟩)
def ZiU (c:TT) (t u:TS):TS:=fun D σ H => c σ H fun b H1 => if b = true then t D σ H1 else u D σ H1
theorem Zau {c:Expr} {a b:List Stmt} {tc:TT} (hc:PT X c tc) (ha:PSs X a t) (hb:PSs X b u):PS X (.If c a b pos) (ZiU tc t u):=by
  intro pins s σ H D I h
  refine wpAny_If (thn (hc pins s σ H _ I h) fun d s1 ⟨H1,I1,q1⟩ => ?_)
  cases d with
  | true => exact ha pins s1 σ H1 D I1 q1
  | false => exact hb pins s1 σ H1 D I1 q1
def Zh8:TS:=fun _ _ _ => False
theorem ZgE:PS X st Zh8:=fun _ _ _ _ _ _ h => h.elim
end
abbrev TG:=V → St → Hp → (St → Hp → Prop) → Prop
abbrev TGs:=List V → St → Hp → (St → Hp → Prop) → Prop
def PG (X:Cx) (target:Expr) (t:TG):Prop :=
  ∀ (pins:List (Addr × Obj)) (s:Shared) (σ:St) (H:Hp) (v:V) (u:Value) (Q:St → Hp → Prop),Inv X pins σ H s → RelV v u → t v σ H Q →
    wpAny (model X.prog X.w) X.A (assign target X.env u) (fun _ s' => ∃ σ' H',Inv X pins σ' H' s' ∧ Q σ' H') X.xe s
def PGs (X:Cx) (ts:List Expr) (t:TGs):Prop :=
  ∀ (pins:List (Addr × Obj)) (s:Shared) (σ:St) (H:Hp) (vs:List V) (us:List Value) (Q:St → Hp → Prop),Inv X pins σ H s → Vals vs us → t vs σ H Q →
    wpAny (model X.prog X.w) X.A (assignInOrder ((assignEach ts X.env).map (·.2)) us) (fun _ s' => ∃ σ' H',Inv X pins σ' H' s' ∧ Q σ' H') X.xe s
abbrev ZiV:=V → V → V → Hp → (Hp → Prop) → Prop
def Zjb (X:Cx) (t:ZiV):Prop :=
  ∀ (pins:List (Addr × Obj)) (s:Shared) (σ:St) (H:Hp) (o i v:V) (ov iv u:Value) (Q:Hp → Prop),Inv X pins σ H s → RelV o ov → RelV i iv → RelV v u → t o i v H Q →
    wpAny (model X.prog X.w) X.A (setItem ov iv u) (fun _ s' => ∃ H',Inv X pins σ H' s' ∧ Q H') X.xe s
abbrev TIp:=V → V → Hp → VK → Prop
def PIp (X:Cx) (op:Operator) (t:TIp):Prop :=
  ∀ (pins:List (Addr × Obj)) (s:Shared) (σ:St) (H:Hp) (x y:V) (v u:Value) (Q:VK),Inv X pins σ H s → RelV x v → RelV y u → t x y H Q →
    wpAny (model X.prog X.w) X.A (inplaceOp op v u) (EP X pins σ Q) X.xe s
section
variable {X:Cx} {pos:Pos}
def Zb3 (i:Nat):TG:=fun v σ H Q => Q (σ.set i (some v)) H
theorem Zaw {i:Nat} {x:Str} (hN:X.N.Nodup) (hi:X.N[i]? = some x) (hx:Loc X.env.scope x) (hf:X.fn x = true ∨ X.env.scope.names.lookup x = some .local:=by first | exact .inl rfl | exact .inr rfl | assumption):PG X (.Name x pos) (Zb3 i):=by
  intro pins s σ H v u Q I r h
  exact wpAny_assign_Name (ZbB I hN hi hx r (fun s' I' => ⟨_,H,I',h⟩) hf)
def Zjn:TGs:=fun vs σ H Q => vs = [] ∧ Q σ H
def ZiW (t:TG) (u:TGs):TGs:=fun vs σ H Q => ∃ v r,vs = v :: r ∧ t v σ H fun σ' H' => u r σ' H' Q
theorem ZfH:PGs X [] Zjn:=by
  intro pins s σ H vs us Q I r h
  obtain ⟨e,h⟩:=h
  subst e
  cases r
  exact assignInOrder_nil ⟨σ,H,I,h⟩
theorem Zcr {e:Expr} {es:List Expr} {t:TG} {u:TGs} (h1:PG X e t) (h2:PGs X es u)
    (hs:(assignEach (e :: es) X.env).map (·.2) = assign e X.env :: (assignEach es X.env).map (·.2):=by rfl):PGs X (e :: es) (ZiW t u):=by
  intro pins s σ H vs us Q I r h
  obtain ⟨v,vr,e1,h⟩:=h
  subst e1
  cases r with
  | cons r rr =>
    rw [hs]
    refine assignInOrder_cons (thn (h1 pins s σ H _ _ _ I r h) fun _ s1 ⟨σ1,H1,I1,q1⟩ => ?_)
    exact h2 pins s1 σ1 H1 _ _ Q I1 rr q1
def Zjo (K:PySem.W.Frag) (n:Nat) (t:TGs):TG:=fun v σ H Q => ∃ a xs,v = .ref a ∧ SqT K H a xs ∧ xs.length = n ∧ t xs σ H Q
theorem Zg8 {es:List Expr} {k:Nat} {t:TGs} {n:Nat} (hc:X.calm = true) (h:PGs X es t)
    (hn:(assignEach es X.env).length = n:=by rfl) (hst:(assignEach es X.env).findIdx? (·.1) = none:=by rfl):PG X (.Tuple es k pos) (Zjo X.K n t):=by
  intro pins s σ H v u Q I r hw
  obtain ⟨a,xs,e1,hq,hl,hw⟩:=hw
  subst e1
  cases r
  obtain ⟨its,rv,ht,hz⟩:=I.tuple hq
  refine assign_Tuple_tuple (I.ok.hd hc) ht (by simp [hn,← hl,rv.length]) hst fun h' hx => ?_
  have I1:Inv X pins σ H { s with heap:=h' }:=I.kept (t':=s.toks) fun b o e => hx b o (Nat.ne_of_lt (Heap.lt_size e)) e
  exact h pins _ σ H xs _ Q I1 (by simpa using rv) hw
def Zjp (to ti:TE) (t:ZiV):TG:=fun v σ H Q => to σ H fun o H1 => ti σ H1 fun i H2 => t o i v H2 fun H3 => Q σ H3
theorem Zh9 {o i:Expr} {to ti:TE} {t:ZiV} (ho:PE X o to) (hi:PE X i ti) (hs:Zjb X t)
    (ha:∀ v,assign (.Subscript o i pos) X.env v = (do
      let ov ← holding [v] (eval o X.env)
      let iv ← holding [v,ov] (eval i X.env)
      standAt pos
      holding [v,ov,iv] (setItem ov iv v)
      release [v,ov,iv] []):=by intro _; rfl):PG X (.Subscript o i pos) (Zjp to ti t):=by
  intro pins s σ H v u Q I r h
  rw [ha]
  refine wpAny_bind (wpAny_holding (thn (ho pins s σ H _ I h) fun ov s1 ⟨x,H1,I1,r1,q1⟩ => ?_))
  refine wpAny_bind (wpAny_holding (thn (hi pins s1 σ H1 _ I1 q1) fun iv s2 ⟨y,H2,I2,r2,q2⟩ => ?_))
  refine wpAny_bind (wpAny_standAt (wpAny_bind (wpAny_holding (thn (hs pins s2 σ H2 x y v ov iv u _ I2 r1 r2 r q2) fun _ s3 ⟨H3,I3,q3⟩ => ?_))))
  exact wpAny_release ⟨σ,H3,I3,q3⟩
def ZiN (te:TE) (g:TG):TS:=fun D σ H => te σ H fun x H1 => g x σ H1 D.nx
theorem Zia {tg e:Expr} {te:TE} {g:TG} (he:PE X e te) (hg:PG X tg g) (hs:swapsWithSole [tg] e pos.line X.env = pure false:=by rfl) (hw:swappedStores [tg] e X.env = pure none:=by rfl)
    (h1:(assignEach [tg] X.env).map (·.2) = [assign tg X.env]:=by rfl):PS X (.Assign [tg] e pos) (ZiN te g):=by
  intro pins s σ H D I h
  refine wpAny_Assign_stores (thn (he pins s σ H _ I h) fun v s1 ⟨x,H1,I1,r1,q1⟩ => ?_) hs hw
  rw [h1]
  exact thn (hg pins s1 σ H1 x v _ I1 r1 q1) fun _ s2 q => q
theorem Zaq {i:Nat} {x:Str} {e:Expr} {te:TE} {pos':Pos} (hN:X.N.Nodup) (hi:X.N[i]? = some x) (hx:Loc X.env.scope x) (he:PE X e te) (hs:swapsWith e (some (.Name x pos')) pos.line X.env = pure false:=by rfl) (hf:X.fn x = true ∨ X.env.scope.names.lookup x = some .local:=by first | exact .inl rfl | exact .inr rfl | assumption) :
    PS X (.Assign [.Name x pos'] e pos) (ZiN te (Zb3 i)):=by
  intro pins s σ H D I h
  refine wpAny_Assign_Name (thn (he pins s σ H _ I h) fun v s1 ⟨y,H1,I1,r1,q1⟩ => ?_) hs
  exact ZbB I1 hN hi hx r1 (fun s2 I2 => ⟨_,H1,I2,q1⟩) hf
def Zjq (i j:Nat) (ta:TA):TS:=fun D σ H => ta σ H fun vs H1 => ∃ v w,vs = [v,w] ∧ D.nx ((σ.set i (some v)).set j (some w)) H1
theorem Zib {i j:Nat} {x y:Str} {a b:Expr} {ta:TA} {px py pt:Pos} {kt k2 pt2} (hc:X.calm = true) (hN:X.N.Nodup) (hi:X.N[i]? = some x) (hj:X.N[j]? = some y) (hij:i ≠ j)
    (hx:X.env.scope.names.lookup x = some .local) (hy:X.env.scope.names.lookup y = some .local) (ha:PA X [a,b] ta)
    (hw:swappedStores [.Tuple [.Name x px,.Name y py] kt pt] (.Tuple [a,b] k2 pt2) X.env = pure (some [x,y]))
    (hs:swapsWithSole [.Tuple [.Name x px,.Name y py] kt pt] (.Tuple [a,b] k2 pt2) pos.line X.env = pure false:=by rfl) :
    PS X (.Assign [.Tuple [.Name x px,.Name y py] kt pt] (.Tuple [a,b] k2 pt2) pos) (Zjq i j ta):=by
  intro pins s σ H D I h
  rw [exec_Assign_arm]
  refine wpAny_bind (wpAny_standAt ?_)
  rw [hs]
  refine wpAny_bind (wpAny_pure ?_)
  rw [if_neg (by decide)]
  refine wpAny_bind (Tuple_ (thn (ha _ pins s σ H _ I h) fun us s1 ⟨vs,H1,I1,r1,q1⟩ => ?_))
  obtain ⟨v,w,e1,q1⟩:=q1
  subst e1
  obtain ⟨u1,u2,rfl,rv,rw'⟩:∃ u1 u2,us = [u1,u2] ∧ RelV v u1 ∧ RelV w u2:=by
    cases r1 with
    | cons p q =>
      cases q with
      | cons p' q' =>
        cases q'
        exact ⟨_,_,rfl,p,p'⟩
  refine wpAny_newObj_type ?_ (by show 2 ≤ sizeLine; decide)
  have I2:Inv X pins σ H1 { s1 with heap:=s1.heap.push { cls:=.type "tuple", data:=.seq [u1,u2].toArray } }:=I1.kept (t':=s1.toks) fun b o e => Heap.get?_push_of_some _ e
  rw [hw]
  refine wpAny_bind (wpAny_pure ?_)
  show wpAny (model X.prog X.w) X.A (do rule "assign.swapped-stores"; let items ← unpackItems (.ref s1.heap.objs.size) 2 none; assignInOrder [fun v => bindName X.env y v,fun v => bindName X.env x v] items.reverse; pure Flow.next) _ _ _
  refine wpAny_bind (wpAny_rule (wpAny_bind (unpackItems_tuple (items:=#[u1,u2]) (I.ok.hd hc) (IsTup.new s1.heap _) fun h' hx' => ?_)))
  have I3:=I2.kept (h':=h') (t':=s1.toks) fun b o e => hx' b o (Nat.ne_of_lt (Heap.lt_size e)) e
  show wpAny _ _ (assignInOrder [fun v => bindName X.env y v,fun v => bindName X.env x v] [u2,u1] >>= fun _ => pure Flow.next) _ _ _
  refine wpAny_bind (assignInOrder_cons (wpAny_bindName (ZbB I3 hN hj (.inl hy) rw' (fun s2 I4 => ?_) (.inr hy))))
  refine assignInOrder_cons (wpAny_bindName (ZbB I4 hN hi (.inl hx) rv (fun s3 I5 => assignInOrder_nil (wpAny_pure ?_)) (.inr hx)))
  rw [List.set_comm _ _ (Ne.symm hij)] at I5
  exact ⟨_,H1,I5,q1⟩
def Zjr (i:Nat) (te:TE) (ti:TIp):TS:=fun D σ H => ∃ x,σ[i]? = some (some x) ∧ te σ H fun y H1 => ti x y H1 fun z H2 => D.nx (σ.set i (some z)) H2
theorem Zic {i:Nat} {x:Str} {e:Expr} {te:TE} {op:Operator} {ti:TIp} {pos':Pos} (hN:X.N.Nodup) (hi:X.N[i]? = some x) (hx:Loc X.env.scope x) (he:PE X e te) (ho:PIp X op ti) (hf:X.fn x = true ∨ X.env.scope.names.lookup x = some .local:=by first | exact .inl rfl | exact .inr rfl | assumption) :
    PS X (.AugAssign (.Name x pos') op e pos) (Zjr i te ti):=by
  intro pins s σ H D I h
  obtain ⟨v,e1,h⟩:=h
  obtain ⟨m,hn,hl⟩:=I.loc
  have vis:Vis X.env.scope x:=by rcases hx with k | k; exact .inl k; exact .inr (.inl k)
  obtain ⟨u,r,l⟩:=hl i x v hi e1 vis
  refine wpAny_AugAssign_Name ?_
  have go:wpAny (model X.prog X.w) X.A (eval e X.env) (fun w s₂ => wpAny (model X.prog X.w) X.A (inplaceOp op u w) (fun r s₃ => wpAny (model X.prog X.w) X.A (storeName X.env x r) (fun _ => SP X pins D .next) X.xe s₃) X.xe s₂) X.xe s:=by
    refine thn (he pins s σ H _ I h) fun w s1 ⟨y,H1,I1,r1,q1⟩ => ?_
    refine thn (ho pins s1 σ H1 v y u w _ I1 r r1 q1) fun z s2 ⟨zv,H2,I2,r2,q2⟩ => ?_
    exact ZbB I2 hN hi hx r2 (fun s3 I3 => ⟨_,H2,I3,q2⟩) hf
  rcases l with ⟨hk,hm⟩ | ⟨hk,c,hc,hcell⟩
  · exact wpAny_loadName_local I.ok.kind hk hn hm go
  · rcases hk with hk | hk
    · exact wpAny_loadName_cell I.ok.kind hk hc hcell go
    · rcases hx with k | k
      · have:X.env.scope.names.lookup x = some .free:=hk
        rw [k] at this; cases this
      · have:X.env.scope.names.lookup x = some .free:=hk
        rw [k] at this; cases this
def ipI (f:Int → Int → Int):TIp:=fun x y H Q => ∃ i j,x = .int i ∧ y = .int j ∧ Q (.int (f i j)) H
theorem Zid:PIp X .Add (ipI fun i j => i + j):=by
  intro pins s σ H x y v u Q I r1 r2 h
  obtain ⟨i,j,e1,e2,q⟩:=h
  subst e1; subst e2
  obtain ⟨t,rfl⟩:=r1
  obtain ⟨t',rfl⟩:=r2
  exact iadd_int ⟨.int _,H,I.tok _,⟨_,rfl⟩,q⟩
end
section
variable {X:Cx} {pos:Pos}
def Zie (c:TT) (tb:TS):TS:=fun D σ H => ∃ W:Nat → St → Hp → Prop,(∃ m,W m σ H) ∧ ∀ m σ H,W m σ H →
  c σ H fun b H1 => if b = true then ∃ N:St → Hp → Prop,(∀ σ' H',N σ' H' → ∃ m',m' < m ∧ W m' σ' H') ∧ tb { D with nx:=N,ct:=N,bk:=D.nx } σ H1 else D.nx σ H1
theorem ZbC {c:Expr} {body:List Stmt} {tc:TT} {tb:TS} (hp:PassesOwn (model X.prog X.w) X.A X.env X.xe) (hc:PT X c tc) (hb:PSs X body tb):PS X (.While c body [] pos) (Zie tc tb):=by
  intro pins s σ H D I h
  obtain ⟨W,⟨m0,w0⟩,turn⟩:=h
  refine wpAny_While (codeAny_whileLoop (fun n s' => ∃ σ' H',Inv X pins σ' H' s' ∧ W n σ' H') ?_ m0 ⟨σ,H,I,w0⟩)
  rintro n s1 ⟨σ1,H1,I1,w1⟩
  refine wpAny_passesOwn hp (thn (hc pins s1 σ1 H1 _ I1 (turn n σ1 H1 w1)) fun b s2 ⟨H2,I2,q2⟩ => ?_)
  cases b with
  | true =>
    obtain ⟨N,hN,q2⟩:=q2
    rw [if_pos rfl]
    refine wpAny_passesOwn hp (thn (hb pins s2 σ1 H2 _ I2 q2) fun f s3 q3 => ?_)
    cases f with
    | next =>
      obtain ⟨σ3,H3,I3,n3⟩:=q3
      obtain ⟨m',hm,w3⟩:=hN σ3 H3 n3
      exact ⟨m',hm,σ3,H3,I3,w3⟩
    | cont =>
      obtain ⟨σ3,H3,I3,n3⟩:=q3
      obtain ⟨m',hm,w3⟩:=hN σ3 H3 n3
      exact ⟨m',hm,σ3,H3,I3,w3⟩
    | brk => exact q3
    | ret v => exact q3
  | false =>
    rw [if_neg Bool.false_ne_true]
    exact wpAny_execs_nil ⟨σ1,H2,I2,q2⟩
end
structure It where
  go:Nat → Hp → Prop
  yld:Nat → Hp → V → Hp → Prop
  stop:Nat → Hp → Prop
def Zer (X:Cx) (pins:List (Addr × Obj)) (H:Hp) (b:Addr):Prop :=
  H b = none ∧ b ≠ X.env.locals ∧ b ∉ X.fs ∧ (b ∈ X.ex ∨ X.s₀.heap.objs.size ≤ b) ∧ (∀ x c,X.env.cells.lookup x = some c → c ≠ b) ∧ ∀ p ∈ X.pn ++ pins,p.1 ≠ b
theorem Inv.fpOk {X:Cx} {pins:List (Addr × Obj)} {σ:St} {H H':Hp} {s:Shared} {b:Addr} (I:Inv X pins σ H s) (hb:s.heap.objs.size ≤ b) (hn:H' b = none):Zer X pins H' b:=by
  refine ⟨hn,Nat.ne_of_gt (Nat.lt_of_lt_of_le I.lt hb),I.nofs hb,.inr (Nat.le_trans I.sz hb),fun x c e z => ?_,fun p hp z => ?_⟩
  · obtain ⟨v,q⟩:=I.cell x c e
    exact absurd (Nat.lt_of_lt_of_le q.lt (by rw [z]; exact hb)) (Nat.lt_irrefl _)
  · exact absurd (Nat.lt_of_lt_of_le (Heap.lt_size (I.pin p hp).1) (by rw [z]; exact hb)) (Nat.lt_irrefl _)
structure Turn (P:Program) (w:World) (K:PySem.W.Frag) (tg:Expr) (J:It) (fp:List Addr) (it:Addr) (tn:Nat → Heap → Prop):Prop where
  mem:it ∈ fp
  obj:∀ i h,tn i h → ∀ b ∈ fp,∃ o,h.get? b = some o ∧ ∀ v,o.data ≠ .cell v
  keep:∀ i h h',tn i h → (∀ b ∈ fp,∀ o,h.get? b = some o → h'.get? b = some o) → tn i h'
  item:∀ (X:Cx),X.prog = P → X.w = w → X.K = K → X.calm = true → ∀ (i:Nat) (pins:List (Addr × Obj)) (s:Shared) (σ:St) (H:Hp) (E:Value → Shared → Prop),Inv X pins σ H s → (∀ b ∈ fp,Zer X pins H b) → tn i s.heap → J.go i H →
    wpAny (model P w) X.A (pyNext (.ref it)) (fun r s1 => ∃ u,r = some u ∧
      wpAny (model P w) X.A (letOwnedTupleGo tg (.ref it) u) (fun _ s2 => ∃ x H',Inv X pins σ H' s2 ∧ RelV x u ∧ J.yld i H x H' ∧ tn (i + 1) s2.heap ∧ ∀ b ∈ fp,H' b = none) E s1) E s
  done:∀ (X:Cx),X.prog = P → X.w = w → X.K = K → X.calm = true → ∀ (i:Nat) (pins:List (Addr × Obj)) (s:Shared) (σ:St) (H:Hp) (E:Value → Shared → Prop),Inv X pins σ H s → (∀ b ∈ fp,Zer X pins H b) → tn i s.heap → J.stop i H →
    wpAny (model P w) X.A (pyNext (.ref it)) (fun r s1 => r = none ∧ Inv X pins σ H s1) E s
  self:∀ (A:Around) (i:Nat) (s:Shared) (Q:Value → Shared → Prop) (E:Value → Shared → Prop),tn i s.heap → Q (.ref it) s → wpAny (model P w) A (pyIter (.ref it)) Q E s
abbrev TI:=St → Hp → (It → Hp → Prop) → Prop
def PIE (X:Cx) (pins:List (Addr × Obj)) (σ:St) (tg:Expr) (R:It → Hp → Prop) (itv:Value) (s2:Shared):Prop :=
  ∃ (it:Addr) (fp:List Addr) (tn:Nat → Heap → Prop) (J:It) (H':Hp),itv = .ref it ∧ Inv X pins σ H' s2 ∧ Turn X.prog X.w X.K tg J fp it tn ∧ tn 0 s2.heap ∧ (∀ b ∈ fp,Zer X pins H' b) ∧ R J H'
def PI (X:Cx) (tg iter:Expr) (wi:TI):Prop :=
  ∀ (pins:List (Addr × Obj)) (s:Shared) (σ:St) (H:Hp) (R:It → Hp → Prop),Inv X pins σ H s → wi σ H R →
    wpAny (model X.prog X.w) X.A (eval iter X.env) (fun v s1 => wpAny (model X.prog X.w) X.A (pyIter v) (PIE X pins σ tg R) X.xe s1) X.xe s
theorem Zhu {M:Model} {A:Around} {E:Value → Shared → Prop} {s:Shared} {tg:Expr} {it:Addr} {u:Value} {o:Obj} {n:String} {vs:Array Value} {Q:Unit → Shared → Prop} (ho:s.heap.get? it = some o) (hc:o.cls = .type n) (hd:o.data = .fields vs)
    (hn:["enumerate", "zip", "dict_itemiterator", "dict_reverseitemiterator", "odict_iterator", "itertools.zip_longest", "itertools.pairwise"].contains n = false) (hQ:Q () s):wpAny M A (letOwnedTupleGo tg (.ref it) u) Q E s:=by
  unfold letOwnedTupleGo
  cases tg <;> first
    | exact wpAny_pure hQ
    | (cases u <;> first
        | exact wpAny_pure hQ
        | (refine wpAny_bind (wpAny_load ho ?_)
           rw [hc,hd]
           show wpAny M A (if (["enumerate", "zip", "dict_itemiterator", "dict_reverseitemiterator", "odict_iterator", "itertools.zip_longest", "itertools.pairwise"].contains n && vs[0]? == some (rawInt _)) = true then _ else _) Q E s
           rw [if_neg (by intro h; rw [hn,Bool.false_and] at h; cases h)]
           exact wpAny_pure hQ))
def Itl (K:PySem.W.Frag) (a:Addr):It :=
  ⟨fun i H => ∃ xs x,SqL K H a xs ∧ xs[i]? = some x,fun i H x H' => H' = H ∧ ∀ xs,SqL K H a xs → xs[i]? = some x,fun i H => ∃ xs,SqL K H a xs ∧ xs.length ≤ i⟩
def Itr (lo:Int) (n:Nat):It:=⟨fun i _ => i < n,fun i H x H' => H' = H ∧ x = .int (lo + i),fun i _ => n ≤ i⟩
theorem ZfI {P:Program} {w:World} {K:PySem.W.Frag} {tg:Expr} (a it:Addr):Turn P w K tg (Itl K a) [it] it (fun i h => h.IsListIter it a i) where
  mem:=by simp
  obj:=fun i h st b hb => by
    have e:b = it:=by simpa using hb
    subst e
    obtain ⟨o,e,c,d⟩:=st
    exact ⟨o,e,fun v z => by rw [d] at z; cases z⟩
  keep:=fun i h h' st k => st.at fun o e => k it (by simp) o e
  item:=by
    intro X hP hw hK hc i pins s σ H E I hf st hg
    subst hP hw hK
    obtain ⟨xs,x,hq,hx⟩:=hg
    obtain ⟨its,rv,p,hz⟩:=I.list hq
    obtain ⟨u,hu,ru⟩:=rv.get hx
    obtain ⟨f0,f1,f2,f3,f4,f5⟩:=hf it (by simp)
    refine wpAny_pyNext_list_item st p.isList (x:=u) (by simpa using hu) fun h' st' sb => ?_
    have I1:Inv X pins σ H { s with heap:=h' }:=I.turned (t':=s.toks) (fun b o hb e => (sb.2 b hb).trans e) f0 f1 f3 f4 f5
    obtain ⟨o,e,c,d⟩:=id st'
    exact ⟨u,rfl,Zhu (s:={ s with heap:=h' }) e c d (by decide) ⟨x,H,I1,ru,⟨rfl,fun ys hy => by rw [I.list_inj hy hq]; exact hx⟩,st',fun b hb => (hf b hb).1⟩⟩
  done:=by
    intro X hP hw hK hc i pins s σ H E I hf st hg
    subst hP hw hK
    obtain ⟨xs,hq,hx⟩:=hg
    obtain ⟨its,rv,p,hz⟩:=I.list hq
    obtain ⟨f0,f1,f2,f3,f4,f5⟩:=hf it (by simp)
    have hl:=rv.length
    exact wpAny_pyNext_list_end (I.ok.hd hc) st p.isList (by simp; omega) fun h' eb => ⟨rfl,I.turned (t':=s.toks) (fun b o hb e => eb b o hb e) f0 f1 f3 f4 f5⟩
  self:=fun _ _ _ _ _ st h => wpAny_pyIter_listiter st h
theorem Zff {P:Program} {w:World} {K:PySem.W.Frag} {tg:Expr} (it:Addr) (lo:Int) (n:Nat):Turn P w K tg (Itr lo n) [it] it (fun i h => IsRangeIter h it (lo + (i:Nat) * 1) ((n:Int) - (i:Nat)) 1) where
  mem:=by simp
  obj:=fun i h st b hb => by
    have e:b = it:=by simpa using hb
    subst e
    exact ⟨_,st,fun v z => by
      have z':Data.fields _ = Data.cell v:=z
      cases z'⟩
  keep:=fun i h h' st k => k it (by simp) _ st
  item:=by
    intro X hP hw hK hc i pins s σ H E I hf st hg
    subst hP hw hK
    obtain ⟨f0,f1,f2,f3,f4,f5⟩:=hf it (by simp)
    have W:=Walks.range (prog:=X.prog) (w:=X.w) (I.ok.hd hc) it lo 1 n
    refine W.item i s _ _ hg st fun v h' tk hv st' kk => ?_
    obtain ⟨t,rfl⟩:=hv
    have I1:Inv X pins σ H { s with heap:=h',toks:=tk }:=I.turned (fun b o hb e => kk b o (by simpa using hb) e) f0 f1 f3 f4 f5
    refine ⟨_,rfl,Zhu (s:={ s with heap:=h',toks:=tk }) (n := "range_iterator") st' rfl rfl (by decide) ⟨.int (lo + i),H,I1,⟨t,?_⟩,⟨rfl,rfl⟩,st',fun b hb => (hf b hb).1⟩⟩
    rw [Int.mul_one]
  done:=by
    intro X hP hw hK hc i pins s σ H E I hf st hg
    subst hP hw hK
    obtain ⟨f0,f1,f2,f3,f4,f5⟩:=hf it (by simp)
    exact wpAny_pyNext_range_end (I.ok.hd hc) st (by have:n ≤ i:=hg; omega) fun h' eb => ⟨rfl,I.turned (t':=s.toks) (fun b o hb e => eb b o hb e) f0 f1 f3 f4 f5⟩
  self:=fun _ _ _ _ _ st h => wpAny_pyIter_rangeiter st h
end L2
namespace L2
open PySem PySem.Spec PyProof.Rows
section
variable {X:Cx} {tg:Expr}
def Zif (K:PySem.W.Frag) (tl:TE):TI:=fun σ H R => tl σ H fun x H1 => ∃ a,x = .ref a ∧ (∃ xs,SqL K H1 a xs) ∧ R (Itl K a) H1
theorem ZaF {l:Expr} {tl:TE} (hl:PE X l tl):PI X tg l (Zif X.K tl):=by
  intro pins s σ H R I h
  refine thn (hl pins s σ H _ I h) fun v s1 ⟨x,H1,I1,r1,q1⟩ => ?_
  obtain ⟨a,e,⟨xs,hq⟩,q⟩:=q1
  subst e
  cases r1
  obtain ⟨its,rv,p,hz⟩:=I1.list hq
  refine wpAny_pyIter_list p.isList ?_
  refine ⟨s1.heap.objs.size,[s1.heap.objs.size],_,_,H1,rfl,I1.kept (t':=s1.toks) fun b o e => Heap.get?_push_of_some _ e,ZfI a _,⟨_,Heap.get?_push_size _ rfl,rfl,rfl⟩,fun b hb => ?_,q⟩
  have e:b = s1.heap.objs.size:=by simpa using hb
  subst e
  exact I1.fpOk (Nat.le_refl _) (I1.hok.fresh (Nat.le_refl _))
theorem ZgF {pins:List (Addr × Obj)} {σ:St} {H:Hp} {s:Shared} {R:It → Hp → Prop} {E:Value → Shared → Prop} {lo hi:Int} {t u v:Tok} {tk:Nat} (I:Inv X pins σ H s) (h1:-(2 ^ 62) ≤ lo) (h2:lo < 2 ^ 62) (h3:-(2 ^ 62) ≤ hi) (h4:hi < 2 ^ 62)
    (q:R (Itr lo (hi - lo).toNat) H):wpAny (model X.prog X.w) X.A (pyIter (.ref s.heap.objs.size)) (PIE X pins σ tg R) E { s with heap:=s.heap.push { cls:=.type "range", data:=.fields #[.int lo t,.int hi u,.int 1 v] },toks:=tk }:=by
  refine wpAny_pyIter_range (IsRange.new ..) (small_one h1 h2 h3 h4) ?_
  have I1:Inv X pins σ H { s with heap:=s.heap.push { cls:=.type "range", data:=.fields #[.int lo t,.int hi u,.int 1 v] },toks:=tk }:=I.kept fun b o e => Heap.get?_push_of_some _ e
  refine ⟨(s.heap.push { cls:=.type "range", data:=.fields #[.int lo t,.int hi u,.int 1 v] }).objs.size,[(s.heap.push { cls:=.type "range", data:=.fields #[.int lo t,.int hi u,.int 1 v] }).objs.size],_,_,H,rfl,
    I1.kept (t':=tk) fun b o e => Heap.get?_push_of_some _ e,Zff _ lo (hi - lo).toNat,?_,fun b hb => ?_,q⟩
  · have e1:lo + ((0:Nat):Int) * 1 = lo:=by simp
    have e2:(((hi - lo).toNat:Nat):Int) - ((0:Nat):Int) = Builtin.Range.rangeSize lo hi 1:=by rw [rangeSize_one]; split <;> omega
    show IsRangeIter _ _ (lo + ((0:Nat):Int) * 1) ((((hi - lo).toNat:Nat):Int) - ((0:Nat):Int)) 1
    rw [e1,e2]
    exact Heap.get?_push_size _ rfl
  · have e:b = (s.heap.push { cls:=.type "range", data:=.fields #[.int lo t,.int hi u,.int 1 v] }).objs.size:=by simpa using hb
    subst e
    exact I1.fpOk (Nat.le_refl _) (I1.hok.fresh (Nat.le_refl _))
def ZiX (ta:TA):TI:=fun σ H R => ta σ H fun vs H1 => ∃ j:Int,vs = [.int j] ∧ -(2 ^ 62) ≤ j ∧ j < 2 ^ 62 ∧ R (Itr 0 j.toNat) H1
theorem ZdM {a:Expr} {ta:TA} {p pos:Pos} (hg:Gl X "range") (hm:X.mg "range" = none) (ha:PA X [a] ta) (hs:starEach [a] X.env = [(false,eval a X.env)]:=by rfl):PI X tg (.Call (.Name "range" p) [a] [] pos) (ZiX ta):=by
  intro pins s σ H R I h
  refine Call_ (ZdL I hg hm boot_range (PyProof.Rows.callWith_type1 (thn (ha pos pins s σ H _ I h) fun us s1 ⟨vs,H1,I1,r1,q1⟩ => ?_) hs rfl))
  obtain ⟨j,e,q1,q2,q⟩:=q1
  subst e
  cases r1 with
  | cons r rr =>
    cases rr
    obtain ⟨t,rfl⟩:=r
    exact call_range_1 (ZgF I1 (by omega) (by omega) q1 q2 (by simpa using q))
def Zjs (wi:TI) (g:TG) (tb:TS):TS:=fun D σ H => wi σ H fun J H1 => ∃ W:Nat → Nat → St → Hp → Prop,(∃ m,W 0 m σ H1) ∧ ∀ i m σ H,W i m σ H →
  (J.stop i H ∧ D.nx σ H) ∨ (J.go i H ∧ ∃ N:St → Hp → Prop,(∀ σ' H',N σ' H' → ∃ m',m' < m ∧ W (i + 1) m' σ' H') ∧ ∀ x H',J.yld i H x H' → g x σ H' fun σ2 H2 => tb { D with nx:=N,ct:=N,bk:=D.nx } σ2 H2)
def ZeP (fp:List Addr) (h:Heap):List (Addr × Obj):=fp.filterMap fun b => (h.get? b).map fun o => (b,o)
theorem Za5 {fp:List Addr} {h:Heap} {b:Addr} {o:Obj} (hb:b ∈ fp) (e:h.get? b = some o):(b,o) ∈ ZeP fp h:=List.mem_filterMap.mpr ⟨b,hb,by rw [e]; rfl⟩
theorem ZfJ {fp:List Addr} {h:Heap} {p:Addr × Obj} (hp:p ∈ ZeP fp h):p.1 ∈ fp ∧ h.get? p.1 = some p.2:=by
  obtain ⟨b,hb,e⟩:=List.mem_filterMap.mp hp
  cases q:h.get? b with
  | none => rw [q] at e; cases e
  | some o =>
    rw [q] at e
    have e':(b,o) = p:=Option.some.inj e
    subst e'
    exact ⟨hb,q⟩
theorem Inv.pinned {pins:List (Addr × Obj)} {σ:St} {H:Hp} {s:Shared} {fp:List Addr} (I:Inv X pins σ H s) (hf:∀ b ∈ fp,Zer X pins H b) (ho:∀ b ∈ fp,∃ o,s.heap.get? b = some o ∧ ∀ v,o.data ≠ .cell v):Inv X (pins ++ ZeP fp s.heap) σ H s :=
  I.pins_of fun p hp => (List.mem_append.mp hp).elim (fun z => I.pin p (List.mem_append_right _ z)) fun z => by
    obtain ⟨hb,e⟩:=ZfJ z
    obtain ⟨f0,f1,f2,_⟩:=hf p.1 hb
    obtain ⟨o,e',d⟩:=ho p.1 hb
    rw [e] at e'; cases e'
    exact ⟨e,f0,f1,f2,d⟩
theorem Inv.unpinned {pins pl:List (Addr × Obj)} {σ:St} {H:Hp} {s:Shared} (I:Inv X (pins ++ pl) σ H s):Inv X pins σ H s:=I.pins_of fun p hp => I.pin p (List.mem_append_right _ (List.mem_append_left _ hp))
theorem ZcA {iter:Expr} {body:List Stmt} {wi:TI} {g:TG} {tb:TS} {pos:Pos} (hp:PassesOwn (model X.prog X.w) X.A X.env X.xe) (hc:X.calm = true) (hi:PI X tg iter wi) (hg:PG X tg g) (hb:PSs X body tb)
    (hs:∀ x,foldedSetIterable iter X.env x = pure x:=by intro _; rfl):PS X (.For tg iter body [] pos) (Zjs wi g tb):=by
  intro pins s σ H D I h
  refine wpAny_For (thn (hi pins s σ H _ I h) fun v s1 h1 => thn h1 fun itv s2 h2 => ?_) hs
  obtain ⟨it,fp,tn,J,H2,e,I2,T,st2,f2,W,⟨m0,w0⟩,turn⟩:=h2
  subst e
  have stat:∀ {H':Hp},(∀ b ∈ fp,H' b = none) → ∀ b ∈ fp,Zer X pins H' b:=fun hn b hb => ⟨hn b hb,(f2 b hb).2⟩
  refine codeAny_forLoop_any (fun n s' => ∃ i σ' H',Inv X pins σ' H' s' ∧ tn i s'.heap ∧ (∀ b ∈ fp,H' b = none) ∧ W i n σ' H') ?_ m0 ⟨0,σ,H2,I2,st2,fun b hb => (f2 b hb).1,w0⟩
  rintro n s3 ⟨i,σ3,H3,I3,st3,fr3,w3⟩
  rcases turn i n σ3 H3 w3 with ⟨stop,qn⟩ | ⟨go,N,hN,step⟩
  · refine wpAny_passesOwn hp (thn (T.done X rfl rfl rfl hc i pins s3 σ3 H3 X.xe I3 (stat fr3) st3 stop) fun r s4 ⟨hr,I4⟩ => ?_)
    subst hr
    exact wpAny_execs_nil ⟨σ3,H3,I4,qn⟩
  · refine wpAny_passesOwn hp (thn (T.item X rfl rfl rfl hc i pins s3 σ3 H3 X.xe I3 (stat fr3) st3 go) fun r s4 ⟨u,hr,h4⟩ => ?_)
    subst hr
    refine wpAny_passesOwn hp (thn h4 fun _ s5 ⟨x,H5,I5,r5,y5,st5,fr5⟩ => ?_)
    have I5':=I5.pinned (stat fr5) (T.obj _ _ st5)
    refine wpAny_passesOwn hp (thn (hg _ s5 σ3 H5 x u _ I5' r5 (step x H5 y5)) fun _ s6 ⟨σ6,H6,I6,q6⟩ => ?_)
    refine wpAny_passesOwn hp (thn (hb _ s6 σ6 H6 _ I6 q6) fun f s7 q7 => ?_)
    have again:∀ {σ7:St} {H7:Hp},Inv X (pins ++ ZeP fp s5.heap) σ7 H7 s7 → N σ7 H7 → ∃ m,m < n ∧ ∃ i σ' H',Inv X pins σ' H' s7 ∧ tn i s7.heap ∧ (∀ b ∈ fp,H' b = none) ∧ W i m σ' H':=fun {σ7 H7} I7 n7 => by
      obtain ⟨m',hm,w7⟩:=hN σ7 H7 n7
      refine ⟨m',hm,i + 1,σ7,H7,I7.unpinned,T.keep _ _ _ st5 fun b hb o e => (I7.pin (b,o) (List.mem_append_right _ (List.mem_append_right _ (Za5 hb e)))).1,fun b hb => ?_,w7⟩
      obtain ⟨o,e,d⟩:=T.obj _ _ st5 b hb
      exact (I7.pin (b,o) (List.mem_append_right _ (List.mem_append_right _ (Za5 hb e)))).2.1
    cases f with
    | next => obtain ⟨σ7,H7,I7,n7⟩:=q7; exact again I7 n7
    | cont => obtain ⟨σ7,H7,I7,n7⟩:=q7; exact again I7 n7
    | brk => obtain ⟨σ7,H7,I7,q7⟩:=q7; exact ⟨σ7,H7,I7.unpinned,q7⟩
    | ret v => obtain ⟨x7,σ7,H7,I7,r7,q7⟩:=q7; exact ⟨x7,σ7,H7,I7.unpinned,r7,q7⟩
end
theorem Zdm {K:PySem.W.Frag} {a:Addr} {xs:List V} {g:TG} {tb:TS} {D:Ends} {σ:St} {H:Hp} (Pv:Nat → St → Hp → Prop) (h0:Pv 0 σ H) (hl:∀ i σ H,i ≤ xs.length → Pv i σ H → SqL K H a xs)
    (hs:∀ i x σ H,xs[i]? = some x → Pv i σ H → g x σ H fun σ2 H2 => tb { D with nx:=Pv (i + 1),ct:=Pv (i + 1),bk:=D.nx } σ2 H2) (hd:∀ σ H,Pv xs.length σ H → D.nx σ H) :
    ∃ W:Nat → Nat → St → Hp → Prop,(∃ m,W 0 m σ H) ∧ ∀ i m σ H,W i m σ H →
      ((Itl K a).stop i H ∧ D.nx σ H) ∨ ((Itl K a).go i H ∧ ∃ N:St → Hp → Prop,(∀ σ' H',N σ' H' → ∃ m',m' < m ∧ W (i + 1) m' σ' H') ∧ ∀ x H',(Itl K a).yld i H x H' → g x σ H' fun σ2 H2 => tb { D with nx:=N,ct:=N,bk:=D.nx } σ2 H2):=by
  refine ⟨fun i m σ H => m = xs.length - i ∧ i ≤ xs.length ∧ Pv i σ H,⟨xs.length,by simp,Nat.zero_le _,h0⟩,?_⟩
  rintro i m σ H ⟨rfl,hi,p⟩
  have q:=hl i σ H hi p
  by_cases hlt:i < xs.length
  · refine .inr ⟨⟨xs,xs[i],q,by simp [hlt]⟩,Pv (i + 1),fun σ' H' p' => ⟨xs.length - (i + 1),by omega,rfl,hlt,p'⟩,fun x H' y => ?_⟩
    obtain ⟨e,y⟩:=y
    subst e
    exact hs i x σ _ (y xs q) p
  · have e:i = xs.length:=by omega
    subst e
    exact .inl ⟨⟨xs,q,Nat.le_refl _⟩,hd σ H p⟩
theorem ZfK {lo:Int} {n:Nat} {g:TG} {tb:TS} {D:Ends} {σ:St} {H:Hp} (Pv:Nat → St → Hp → Prop) (h0:Pv 0 σ H)
    (hs:∀ i σ H,i < n → Pv i σ H → g (.int (lo + i)) σ H fun σ2 H2 => tb { D with nx:=Pv (i + 1),ct:=Pv (i + 1),bk:=D.nx } σ2 H2) (hd:∀ σ H,Pv n σ H → D.nx σ H) :
    ∃ W:Nat → Nat → St → Hp → Prop,(∃ m,W 0 m σ H) ∧ ∀ i m σ H,W i m σ H →
      ((Itr lo n).stop i H ∧ D.nx σ H) ∨ ((Itr lo n).go i H ∧ ∃ N:St → Hp → Prop,(∀ σ' H',N σ' H' → ∃ m',m' < m ∧ W (i + 1) m' σ' H') ∧ ∀ x H',(Itr lo n).yld i H x H' → g x σ H' fun σ2 H2 => tb { D with nx:=N,ct:=N,bk:=D.nx } σ2 H2):=by
  refine ⟨fun i m σ H => m = n - i ∧ i ≤ n ∧ Pv i σ H,⟨n,by simp,Nat.zero_le _,h0⟩,?_⟩
  rintro i m σ H ⟨rfl,hi,p⟩
  by_cases hlt:i < n
  · refine .inr ⟨hlt,Pv (i + 1),fun σ' H' p' => ⟨n - (i + 1),by omega,rfl,hlt,p'⟩,fun x H' y => ?_⟩
    obtain ⟨e,y⟩:=y
    subst e y
    exact hs i σ _ hlt p
  · have e:i = n:=by omega
    subst e
    exact .inl ⟨Nat.le_refl _,hd σ H p⟩
end L2
namespace L2
open PySem PySem.Spec PyProof.Rows
abbrev R2:=V → V → Hp → VK → Prop
def OpR (X:Cx) (f:Value → Value → Sem Value) (r:R2):Prop :=
  ∀ (pins:List (Addr × Obj)) (s:Shared) (σ:St) (H:Hp) (x y:V) (v u:Value) (Q:VK),Inv X pins σ H s → RelV x v → RelV y u → r x y H Q →
    wpAny (model X.prog X.w) X.A (f v u) (EP X pins σ Q) X.xe s
def UnR (X:Cx) (f:Value → Sem Value) (r:V → Hp → VK → Prop):Prop :=
  ∀ (pins:List (Addr × Obj)) (s:Shared) (σ:St) (H:Hp) (x:V) (v:Value) (Q:VK),Inv X pins σ H s → RelV x v → r x H Q →
    wpAny (model X.prog X.w) X.A (f v) (EP X pins σ Q) X.xe s
def CallR (X:Cx) (f:Value) (r:List V → Hp → VK → Prop):Prop :=
  ∀ (pins:List (Addr × Obj)) (s:Shared) (σ:St) (H:Hp) (xs:List V) (us:List Value) (Q:VK),Inv X pins σ H s → Vals xs us → r xs H Q →
    wpAny (model X.prog X.w) X.A (call f us) (EP X pins σ Q) X.xe s
def tOp (r:R2) (ta tb:TE):TE:=fun σ H Q => ta σ H fun x H1 => tb σ H1 fun y H2 => r x y H2 Q
def tUn (r:V → Hp → VK → Prop) (ta:TE):TE:=fun σ H Q => ta σ H fun x H1 => r x H1 Q
def rI (C:Int → Int → Prop) (g:Int → Int → V):R2:=fun x y H Q => ∃ i j,x = .int i ∧ y = .int j ∧ C i j ∧ Q (g i j) H
def rI0 (g:Int → Int → V):R2:=fun x y H Q => ∃ i j,x = .int i ∧ y = .int j ∧ Q (g i j) H
def rU (g:Int → V):V → Hp → VK → Prop:=fun x H Q => ∃ i,x = .int i ∧ Q (g i) H
section
variable {X:Cx} {a b c:Expr} {ta tb tc:TE} {pos:Pos}
theorem ZiY (ha:PE X a ta) (hb:PE X b tb) {pins:List (Addr × Obj)} {s:Shared} {σ:St} {H:Hp} {R:V → V → Hp → Prop} (I:Inv X pins σ H s)
    (h:ta σ H fun x H1 => tb σ H1 fun y H2 => R x y H2) {Q:Value → Shared → Prop} {f:Value → Value → Sem Value}
    (hf:∀ v u s2 x y H2,Inv X pins σ H2 s2 → RelV x v → RelV y u → R x y H2 → wpAny (model X.prog X.w) X.A (f v u) Q X.xe s2) :
    wpAny (model X.prog X.w) X.A (eval a X.env) (fun v s₁ => wpAny (model X.prog X.w) X.A (eval b X.env) (fun u s₂ => wpAny (model X.prog X.w) X.A (f v u) Q X.xe s₂) X.xe s₁) X.xe s:=by
  refine thn (ha pins s σ H _ I h) fun v s1 ⟨x,H1,I1,r1,q1⟩ => ?_
  refine thn (hb pins s1 σ H1 _ I1 q1) fun u s2 ⟨y,H2,I2,r2,q2⟩ => ?_
  exact hf v u s2 x y H2 I2 r1 r2 q2
theorem Zap {op:Operator} {r:R2} (ho:OpR X (binaryOp op) r) (ha:PE X a ta) (hb:PE X b tb):PE X (.BinOp a op b pos) (tOp r ta tb):=by
  intro pins s σ H Q I h
  exact wpAny_BinOp (ZiY ha hb I h fun v u s2 x y H2 I2 rx ry q => ho pins s2 σ H2 x y v u Q I2 rx ry q)
theorem ZiZ {op:UnaryOp} {r:V → Hp → VK → Prop} (ho:UnR X (unaryOp op) r) (ha:PE X a ta):PE X (.UnaryOp op a pos) (tUn r ta):=by
  intro pins s σ H Q I h
  exact UnaryOp_ (thn (ha pins s σ H _ I h) fun v s1 ⟨x,H1,I1,r1,q1⟩ => ho pins s1 σ H1 x v Q I1 r1 q1)
theorem opI {f:Value → Value → Sem Value} {C:Int → Int → Prop} {g:Int → Int → Int}
    (rule:∀ (i j:Int) (t u:Tok) (s:Shared) (Q:Value → Shared → Prop) (E:Value → Shared → Prop),C i j → Q (.int (g i j) s.toks) { s with toks:=s.toks + 1 } → wpAny (model X.prog X.w) X.A (f (.int i t) (.int j u)) Q E s) :
    OpR X f (rI C fun i j => .int (g i j)):=by
  intro pins s σ H x y v u Q I rx ry h
  obtain ⟨i,j,rfl,rfl,hc,q⟩:=h
  obtain ⟨t,rfl⟩:=rx
  obtain ⟨t',rfl⟩:=ry
  exact rule i j t t' s _ _ hc ⟨.int (g i j),H,I.tok _,⟨_,rfl⟩,q⟩
theorem Zjc {f:Value → Value → Sem Value} {g:Int → Int → Int}
    (rule:∀ (i j:Int) (t u:Tok) (s:Shared) (Q:Value → Shared → Prop) (E:Value → Shared → Prop),Q (.int (g i j) s.toks) { s with toks:=s.toks + 1 } → wpAny (model X.prog X.w) X.A (f (.int i t) (.int j u)) Q E s) :
    OpR X f (rI0 fun i j => .int (g i j)):=by
  intro pins s σ H x y v u Q I rx ry h
  obtain ⟨i,j,rfl,rfl,q⟩:=h
  obtain ⟨t,rfl⟩:=rx
  obtain ⟨t',rfl⟩:=ry
  exact rule i j t t' s _ _ ⟨.int (g i j),H,I.tok _,⟨_,rfl⟩,q⟩
theorem ZiO {f:Value → Value → Sem Value} {g:Int → Int → Bool}
    (rule:∀ (i j:Int) (t u:Tok) (s:Shared) (Q:Value → Shared → Prop) (E:Value → Shared → Prop),Q (.bool (g i j)) s → wpAny (model X.prog X.w) X.A (f (.int i t) (.int j u)) Q E s) :
    OpR X f (rI0 fun i j => .bl (g i j)):=by
  intro pins s σ H x y v u Q I rx ry h
  obtain ⟨i,j,rfl,rfl,q⟩:=h
  obtain ⟨t,rfl⟩:=rx
  obtain ⟨t',rfl⟩:=ry
  exact rule i j t t' s _ _ ⟨.bl (g i j),H,I,rfl,q⟩
def Zjt (i j:Int):Prop:=0 < j ∧ j < 1073741824
def Zju (i j:Int):Prop:=0 ≤ j ∧ j ≤ 1000000 ∧ i.natAbs < 2 ^ 64
def CMul (i j:Int):Prop:=(-(2 ^ 64) < i ∧ i < 2 ^ 64) ∨ (-(2 ^ 64) < j ∧ j < 2 ^ 64)
theorem CMul.ok {i j:Int} (h:CMul i j):IntMulOk i j:=by
  rcases h with ⟨h1,h2⟩ | ⟨h1,h2⟩
  · exact .of_left (intBits_le_64 h1 h2)
  · exact .of_right (intBits_le_64 h1 h2)
theorem ZaR:OpR X (binaryOp .Add) (rI0 fun i j => .int (i + j)):=Zjc fun _ _ _ _ _ _ _ q => add_int q
theorem ZcB:OpR X (binaryOp .Sub) (rI0 fun i j => .int (i - j)):=Zjc fun _ _ _ _ _ _ _ q => sub_int q
theorem Zbr:OpR X (binaryOp .Mult) (rI CMul fun i j => .int (i * j)):=opI fun _ _ _ _ _ _ _ hc q => mul_int q hc.ok
theorem Zdn:OpR X (binaryOp .FloorDiv) (rI Zjt fun i j => .int (i / j)):=opI fun i j _ _ _ _ _ hc q => by
  have h1:(0:Int) < j:=hc.1
  have h2:j < 1073741824:=hc.2
  exact floordiv_int (by omega) (by rw [Int.fdiv_eq_ediv_of_nonneg i (by omega)]; exact q) (.inl (PyProof.noPylong_small (by omega)))
theorem ZaK:OpR X (binaryOp .Mod) (rI (fun _ j => 0 < j) fun i j => .int (i % j)):=opI fun i j _ _ _ _ _ hc q => by
  have h1:(0:Int) < j:=hc
  exact mod_int' (by omega) (by rw [Int.fmod_eq_emod_of_nonneg i (by omega)]; exact q)
theorem Za6:OpR X (binaryOp .Mod) (rI (fun _ j => j ≠ 0) fun i j => .int (i.fmod j)):=opI fun _ _ _ _ _ _ _ hc q => mod_int' hc q
theorem ZeQ:OpR X (binaryOp .Pow) (rI Zju fun i j => .int (i ^ j.toNat)):=opI fun _ _ _ _ _ _ _ hc q => pow_int_small hc.1 hc.2.1 hc.2.2 q
theorem unI {f:Value → Sem Value} {g:Int → Int}
    (rule:∀ (i:Int) (t:Tok) (s:Shared) (Q:Value → Shared → Prop) (E:Value → Shared → Prop),Q (.int (g i) s.toks) { s with toks:=s.toks + 1 } → wpAny (model X.prog X.w) X.A (f (.int i t)) Q E s) :
    UnR X f (rU fun i => .int (g i)):=by
  intro pins s σ H x v Q I rx h
  obtain ⟨i,rfl,q⟩:=h
  obtain ⟨t,rfl⟩:=rx
  exact rule i t s _ _ ⟨.int (g i),H,I.tok _,⟨_,rfl⟩,q⟩
theorem Zig:UnR X (unaryOp .USub) (rU fun i => .int (-i)):=unI fun _ _ _ _ _ q => neg_int q
end
def Zjd:V → V → Bool
  | .non,.non => true | .non,.int _ => true | .int _,.non => true | .non,.bl _ => true | .bl _,.non => true | .non,.str _ => true | .str _,.non => true
  | .int _,.int _ => true | .bl _,.bl _ => true | .str _,.str _ => true | .byt _,.byt _ => true
  | .int _,.str _ => true | .str _,.int _ => true | .bl _,.str _ => true | .str _,.bl _ => true
  | _,_ => false
def rEq:R2:=fun x y H Q => Zjd x y = true ∧ Q (.bl (decide (x = y))) H
def rNe:R2:=fun x y H Q => Zjd x y = true ∧ Q (.bl (!decide (x = y))) H
theorem ZfL {i j:Int}:decide (V.int i = V.int j) = (i == j):=by
  rw [Bool.eq_iff_iff]
  simp
theorem Zg9 {i j:Bool}:decide (V.bl i = V.bl j) = (i == j):=by
  rw [Bool.eq_iff_iff]
  simp
theorem ZfM {i j:Str}:decide (V.str i = V.str j) = (i == j):=by
  rw [Bool.eq_iff_iff]
  simp
theorem ZfN {i j:Array UInt8}:decide (V.byt i = V.byt j) = (i.toList == j.toList):=by
  rw [Bool.eq_iff_iff]
  cases i
  cases j
  simp
section
variable {X:Cx} {a b c:Expr} {ta tb tc:TE} {pos:Pos}
theorem Zav {pins:List (Addr × Obj)} {σ:St} {H:Hp} {s:Shared} {Q:VK} {k k':Bool} (I:Inv X pins σ H s) (q:Q (.bl k) H) (e:k = k'):EP X pins σ Q (.bool k') s:=by
  subst e
  exact ⟨.bl k,H,I,rfl,q⟩
theorem Za3:OpR X (compareOp .Eq) rEq:=by
  intro pins s σ H x y v u Q I rx ry h
  obtain ⟨hs,q⟩:=h
  cases x with
  | non =>
    cases rx
    cases y with
    | non => cases ry; exact PySem.EqNone.eq_none_none (Zav I q (by simp))
    | bl j => cases ry; exact PySem.EqNone.eq_none_bool (Zav I q (by simp))
    | int j => obtain ⟨t',rfl⟩:=ry; exact PySem.EqNone.eq_none_int (Zav I q (by simp))
    | str j => obtain ⟨t',rfl⟩:=ry; exact PySem.EqNone.eq_none_str (Zav I q (by simp))
    | _ => exact absurd (show false = true from hs) Bool.false_ne_true
  | bl i =>
    cases rx
    cases y with
    | non => cases ry; exact PySem.EqNone.eq_bool_none (Zav I q (by simp))
    | bl j => cases ry; exact eq_bool (Zav I q Zg9)
    | str j => obtain ⟨t',rfl⟩:=ry; exact PySem.EqMixed.eq_bool_str (Zav I q (by simp))
    | _ => exact absurd (show false = true from hs) Bool.false_ne_true
  | int i =>
    obtain ⟨t,rfl⟩:=rx
    cases y with
    | non => cases ry; exact PySem.EqNone.eq_int_none (Zav I q (by simp))
    | int j => obtain ⟨t',rfl⟩:=ry; exact eq_int (Zav I q ZfL)
    | str j => obtain ⟨t',rfl⟩:=ry; exact PySem.EqMixed.eq_int_str (Zav I q (by simp))
    | _ => exact absurd (show false = true from hs) Bool.false_ne_true
  | str i =>
    obtain ⟨t,rfl⟩:=rx
    cases y with
    | non => cases ry; exact PySem.EqNone.eq_str_none (Zav I q (by simp))
    | bl j => cases ry; exact PySem.EqMixed.eq_str_bool (Zav I q (by simp))
    | int j => obtain ⟨t',rfl⟩:=ry; exact PySem.EqMixed.eq_str_int (Zav I q (by simp))
    | str j => obtain ⟨t',rfl⟩:=ry; exact eq_str (Zav I q ZfM)
    | _ => exact absurd (show false = true from hs) Bool.false_ne_true
  | byt i =>
    obtain ⟨t,rfl⟩:=rx
    cases y with
    | byt j => obtain ⟨t',rfl⟩:=ry; exact PySem.W.eq_bytes (Zav I q ZfN)
    | _ => exact absurd (show false = true from hs) Bool.false_ne_true
  | _ => cases y <;> exact absurd (show false = true from hs) Bool.false_ne_true
theorem ZcC:OpR X (compareOp .NotEq) rNe:=by
  intro pins s σ H x y v u Q I rx ry h
  obtain ⟨hs,q⟩:=h
  cases x with
  | non =>
    cases rx
    cases y with
    | non => cases ry; exact PySem.EqNone.ne_none_none (Zav I q (by simp))
    | bl j => cases ry; exact PySem.EqNone.ne_none_bool (Zav I q (by simp))
    | int j => obtain ⟨t',rfl⟩:=ry; exact PySem.EqNone.ne_none_int (Zav I q (by simp))
    | str j => obtain ⟨t',rfl⟩:=ry; exact PySem.EqNone.ne_none_str (Zav I q (by simp))
    | _ => exact absurd (show false = true from hs) Bool.false_ne_true
  | bl i =>
    cases rx
    cases y with
    | non => cases ry; exact PySem.EqNone.ne_bool_none (Zav I q (by simp))
    | bl j => cases ry; exact ne_bool (Zav I q (congrArg not Zg9))
    | str j => obtain ⟨t',rfl⟩:=ry; exact PySem.EqMixed.ne_bool_str (Zav I q (by simp))
    | _ => exact absurd (show false = true from hs) Bool.false_ne_true
  | int i =>
    obtain ⟨t,rfl⟩:=rx
    cases y with
    | non => cases ry; exact PySem.EqNone.ne_int_none (Zav I q (by simp))
    | int j => obtain ⟨t',rfl⟩:=ry; exact ne_int (Zav I q (congrArg not ZfL))
    | str j => obtain ⟨t',rfl⟩:=ry; exact PySem.EqMixed.ne_int_str (Zav I q (by simp))
    | _ => exact absurd (show false = true from hs) Bool.false_ne_true
  | str i =>
    obtain ⟨t,rfl⟩:=rx
    cases y with
    | non => cases ry; exact PySem.EqNone.ne_str_none (Zav I q (by simp))
    | bl j => cases ry; exact PySem.EqMixed.ne_str_bool (Zav I q (by simp))
    | int j => obtain ⟨t',rfl⟩:=ry; exact PySem.EqMixed.ne_str_int (Zav I q (by simp))
    | str j => obtain ⟨t',rfl⟩:=ry; exact ne_str (Zav I q (congrArg not ZfM))
    | _ => exact absurd (show false = true from hs) Bool.false_ne_true
  | byt i =>
    obtain ⟨t,rfl⟩:=rx
    cases y with
    | byt j => obtain ⟨t',rfl⟩:=ry; exact PySem.W.ne_bytes (Zav I q (congrArg not ZfN))
    | _ => exact absurd (show false = true from hs) Bool.false_ne_true
  | _ => cases y <;> exact absurd (show false = true from hs) Bool.false_ne_true
theorem ZcZ:OpR X (compareOp .Lt) (rI0 fun i j => .bl (decide (i < j))):=ZiO fun _ _ _ _ _ _ _ q => lt_int q
theorem ZfO:OpR X (compareOp .LtE) (rI0 fun i j => .bl (decide (i ≤ j))):=ZiO fun _ _ _ _ _ _ _ q => le_int q
theorem ZbL:OpR X (compareOp .Gt) (rI0 fun i j => .bl (decide (j < i))):=ZiO fun _ _ _ _ _ _ _ q => gt_int q
theorem Zi0:OpR X (compareOp .GtE) (rI0 fun i j => .bl (decide (j ≤ i))):=ZiO fun _ _ _ _ _ _ _ q => ge_int q
theorem ZfP:OpR X (compareOp .In) (fun x y H Q => ∃ i j,x = .str i ∧ y = .str j ∧ Q (.bl (!(Builtin.Str.occurrences j i 0 j.length 1).isEmpty)) H):=by
  intro pins s σ H x y v u Q I rx ry h
  obtain ⟨i,j,rfl,rfl,q⟩:=h
  obtain ⟨t,rfl⟩:=rx
  obtain ⟨t',rfl⟩:=ry
  exact in_str (Zav I q rfl)
theorem Zih:OpR X (compareOp .Is) (fun x y H Q => y = .non ∧ Q (.bl (decide (x = .non))) H):=by
  intro pins s σ H x y v u Q I rx ry h
  obtain ⟨rfl,q⟩:=h
  cases ry
  refine is_none_gen (Zav I q ?_)
  cases x <;> first
    | (cases rx; rfl)
    | (obtain ⟨t,rfl⟩:=rx; rfl)
theorem ZfQ:OpR X (compareOp .IsNot) (fun x y H Q => y = .non ∧ Q (.bl (!decide (x = .non))) H):=by
  intro pins s σ H x y v u Q I rx ry h
  obtain ⟨rfl,q⟩:=h
  cases ry
  refine isnot_none_gen (Zav I q ?_)
  cases x <;> first
    | (cases rx; rfl)
    | (obtain ⟨t,rfl⟩:=rx; rfl)
theorem ZdN:OpR X (compareOp .NotIn) (fun x y H Q => ∃ i j,x = .str i ∧ y = .str j ∧ Q (.bl (!(!(Builtin.Str.occurrences j i 0 j.length 1).isEmpty))) H):=by
  intro pins s σ H x y v u Q I rx ry h
  obtain ⟨i,j,rfl,rfl,q⟩:=h
  obtain ⟨t,rfl⟩:=rx
  obtain ⟨t',rfl⟩:=ry
  exact notIn_str (Zav I q rfl)
theorem OpR.or {f:Value → Value → Sem Value} {r r':R2} (h:OpR X f r) (h':OpR X f r'):OpR X f (fun x y H Q => r x y H Q ∨ r' x y H Q):=by
  intro pins s σ H x y v u Q I rx ry q
  rcases q with q | q
  · exact h pins s σ H x y v u Q I rx ry q
  · exact h' pins s σ H x y v u Q I rx ry q
theorem Zam (b:Expr) {op:CmpOp} (h:op ≠ .In:=by decide) (h2:op ≠ .NotIn:=by decide):behindInMarks op b = false:=by
  have e1:(op == CmpOp.In) = false:=by cases op <;> first | rfl | exact absurd rfl h
  have e2:(op == CmpOp.NotIn) = false:=by cases op <;> first | rfl | exact absurd rfl h2
  cases b <;> simp [behindInMarks,e1,e2]
theorem Zbk {op:CmpOp} {r:R2} (ho:OpR X (compareOp op) r) (ha:PE X a ta) (hb:PE X b tb) (hm:behindInMarks op b = false):PE X (.Compare a [op] [b] pos) (tOp r ta tb):=by
  intro pins s σ H Q I h
  exact wpAny_Compare1 (ZiY ha hb I h fun v u s2 x y H2 I2 rx ry q => ho pins s2 σ H2 x y v u Q I2 rx ry q) hm
def Zii (t:TE):TT:=fun σ H Q => t σ H fun x H' => ∃ k,x = .bl k ∧ Q k H'
theorem Zai {op:CmpOp} {r:R2} (ho:OpR X (compareOp op) r) (ha:PE X a ta) (hb:PE X b tb) (hm:behindInMarks op b = false):PT X (.Compare a [op] [b] pos) (Zii (tOp r ta tb)):=by
  intro pins s σ H Q I h
  refine wpAny_isTrue_Compare1 (thn (ha pins s σ H _ I h) fun v s1 ⟨x,H1,I1,r1,q1⟩ => thn (hb pins s1 σ H1 _ I1 q1) fun u s2 ⟨y,H2,I2,r2,q2⟩ =>
    thn (ho pins s2 σ H2 x y v u _ I2 r1 r2 q2) fun c s3 ⟨z,H3,I3,r3,k,e,q3⟩ => ?_) hm
  subst e
  cases r3
  exact wpAny_truthy_bool ⟨H3,I3,q3⟩
def Zha (r r':R2) (ta tb tc:TE):TE:=fun σ H Q => ta σ H fun x H1 => tb σ H1 fun y H2 => r x y H2 fun z H3 => ∃ k,z = .bl k ∧
  (if k = true then tc σ H3 fun w' H4 => r' y w' H4 Q else Q (.bl false) H3)
theorem ZgG {op op':CmpOp} {r r':R2} (ho:OpR X (compareOp op) r) (ho':OpR X (compareOp op') r') (ha:PE X a ta) (hb:PE X b tb) (hc:PE X c tc)
    (hm:lastMarks [op,op'] [b,c] = false:=by with_unfolding_all rfl):PE X (.Compare a [op,op'] [b,c] pos) (Zha r r' ta tb tc):=by
  intro pins s σ H Q I h
  refine Compare_chain (thn (ha pins s σ H _ I h) fun v s1 ⟨x,H1,I1,r1,q1⟩ => chain_link (thn (hb pins s1 σ H1 _ I1 q1) fun u s2 ⟨y,H2,I2,r2,q2⟩ =>
    thn (ho pins s2 σ H2 x y v u _ I2 r1 r2 q2) fun d s3 ⟨z,H3,I3,r3,k,e,q3⟩ => ?_)) hm
  subst e
  cases r3
  refine wpAny_truthy_bool ?_
  cases k with
  | false => exact ite_ff ⟨.bl false,H3,I3,rfl,q3⟩
  | true => exact ite_tt (chain_last (thn (hc pins s3 σ H3 _ I3 q3) fun w' s4 ⟨z',H4,I4,r4,q4⟩ => ho' pins s4 σ H4 y z' u w' Q I4 r2 r4 q4))
theorem ZgH {op op':CmpOp} {r r':R2} (ho:OpR X (compareOp op) r) (ho':OpR X (compareOp op') r') (ha:PE X a ta) (hb:PE X b tb) (hc:PE X c tc)
    (hm:lastMarks [op,op'] [b,c] = false:=by with_unfolding_all rfl):PT X (.Compare a [op,op'] [b,c] pos) (Zii (Zha r r' ta tb tc)):=by
  intro pins s σ H Q I h
  refine isTrue_chain (thn (ha pins s σ H _ I h) fun v s1 ⟨x,H1,I1,r1,q1⟩ => test_link (thn (hb pins s1 σ H1 _ I1 q1) fun u s2 ⟨y,H2,I2,r2,q2⟩ =>
    thn (ho pins s2 σ H2 x y v u _ I2 r1 r2 q2) fun d s3 ⟨z,H3,I3,r3,k,e,q3⟩ => ?_)) hm
  subst e
  cases r3
  refine wpAny_truthy_bool ?_
  cases k with
  | false =>
    obtain ⟨k',e',q'⟩:=q3
    cases e'
    exact ite_ff ⟨H3,I3,q'⟩
  | true =>
    refine ite_tt (test_last (thn (hc pins s3 σ H3 _ I3 q3) fun w' s4 ⟨z',H4,I4,r4,q4⟩ => thn (ho' pins s4 σ H4 y z' u w' _ I4 r2 r4 q4) fun d' s5 ⟨z2,H5,I5,r5,k2,e2,q5⟩ => ?_))
    subst e2
    cases r5
    exact wpAny_truthy_bool ⟨H5,I5,q5⟩
theorem Zc8:(sizeLine:Nat) < 2 ^ 63:=by rw [sizeLine_eq]; decide
theorem ZaT:OpR X (binaryOp .Add) (fun x y H Q => ∃ i j,x = .str i ∧ y = .str j ∧ i.length + j.length ≤ sizeLine ∧ Q (.str (i ++ j)) H):=by
  intro pins s σ H x y v u Q I rx ry h
  obtain ⟨i,j,rfl,rfl,hz,q⟩:=h
  obtain ⟨t,rfl⟩:=rx
  obtain ⟨t',rfl⟩:=ry
  exact add_str (fun t' tk => ⟨.str (i ++ j),H,I.tok _,⟨_,rfl⟩,q⟩) hz
theorem Zb4 {x:V} {us:List Value} (r:Vals [x] us):∃ u,us = [u] ∧ RelV x u:=by
  cases r with
  | cons r1 r2 => cases r2; exact ⟨_,rfl,r1⟩
theorem Zhv {x y:V} {us:List Value} (r:Vals [x,y] us):∃ u w',us = [u,w'] ∧ RelV x u ∧ RelV y w':=by
  cases r with
  | cons r1 r2 =>
    cases r2 with
    | cons r3 r4 => cases r4; exact ⟨_,_,rfl,r1,r3⟩
theorem ZeR:CallR X (.builtin "abs") (fun xs H Q => ∃ i,xs = [.int i] ∧ Q (.int (if i < 0 then -i else i)) H):=by
  intro pins s σ H xs us Q I r h
  obtain ⟨i,rfl,q⟩:=h
  obtain ⟨u,rfl,t,rfl⟩:=Zb4 r
  exact call_abs_int fun u tk => ⟨.int (if i < 0 then -i else i),H,I.tok _,⟨_,rfl⟩,q⟩
theorem ZfR:CallR X (.type "int") (fun xs H Q => (∃ i,xs = [.int i] ∧ Q (.int i) H) ∨ ∃ k,xs = [.bl k] ∧ Q (.int (if k then 1 else 0)) H):=by
  intro pins s σ H xs us Q I r h
  rcases h with ⟨i,rfl,q⟩ | ⟨k,rfl,q⟩
  · obtain ⟨u,rfl,t,rfl⟩:=Zb4 r
    exact call_int_int ⟨.int i,H,I,⟨_,rfl⟩,q⟩
  · obtain ⟨u,rfl,r1⟩:=Zb4 r
    cases r1
    exact call_int_bool ⟨.int (if k then 1 else 0),H,I.tok _,⟨_,rfl⟩,q⟩
theorem ZaL:CallR X (.type "str") (fun xs H Q => ∃ i,xs = [.int i] ∧ i.natAbs.log2 < 1920 ∧ Q (.str (toString i)) H):=by
  intro pins s σ H xs us Q I r h
  obtain ⟨i,rfl,hz,q⟩:=h
  obtain ⟨u,rfl,t,rfl⟩:=Zb4 r
  exact PySem.P.str_of_int hz ⟨.str _,H,I.tok _,⟨_,rfl⟩,q⟩
end
end L2
namespace L2
open PySem PySem.Spec PyProof.Rows
structure ObjM (h:Heap) (x dx C:Addr) (mA:Str → Option Value):Prop where
  obj:h.get? x = some (PySem.W.instObj C dx)
  ns:h.Ns1 dx mA
  ne:dx ≠ x
theorem ZfS {h:Heap} {dx:Addr} {mA:Str → Option Value} (n:h.Ns1 dx mA):∃ od,h.get? dx = some od ∧ ∀ name,PySem.W.lookIn name od = some (mA name):=by
  obtain ⟨o,es,ep,ho,hd,hk,_,hm⟩:=n
  refine ⟨o,ho,fun name => ?_⟩
  have e:=hm name
  unfold nsFind findBy at e
  rw [← Array.find?_toList] at e
  unfold PySem.W.lookIn
  rw [hd]
  dsimp only
  split
  · rename_i y q
    rw [q] at e
    exact congrArg some e
  · rename_i q
    rw [q] at e
    have a:es.toList.any (·.refKey) = false:=by
      rw [List.any_eq_false]
      intro y hy
      obtain ⟨z,t,hkey⟩:=hk y (Array.mem_toList_iff.mp hy)
      simp [DictEntry.refKey,hkey]
    have a':¬ es.toList.any (·.refKey) = true:=by rw [a]; exact Bool.false_ne_true
    rw [if_neg a']
    exact congrArg some e
theorem ObjM.look {h:Heap} {x dx C:Addr} {mA:Str → Option Value} (I:ObjM h x dx C mA):∃ od,PySem.W.InstAt h x (PySem.W.instObj C dx) C (some od) ∧ ∀ name,PySem.W.lookIn name od = some (mA name) :=
  let ⟨od,ho,hl⟩:=ZfS I.ns
  ⟨od,⟨I.obj,rfl,rfl,ho⟩,hl⟩
section
variable {prog:Program} {w:World} {A:Around} {E:Value → Shared → Prop} {s:Shared} {K:PySem.W.Frag} {x dx C f:Addr} {mA:Str → Option Value} {name:Str} {v:Value}
theorem Zhw {expr:Bool} {Q:Value → Shared → Prop} (X:K.In s.heap) (I:ObjM s.heap x dx C mA) (hg:PySem.W.plainGet K C name = true) (hh:PySem.W.hasDictIn K C = true)
    (ha:PySem.W.findIn K (.ref C) name = some none) (hv:mA name = some v) (hv':PySem.W.handedIn v = true) (h:Q v { s with toks:=s.toks + 1 }) :
    wpAny (model prog w) A (getAttr (.ref x) name expr) Q E s:=by
  obtain ⟨od,J,hl⟩:=I.look
  exact PySem.W.get_value X J (PySem.W.plainGet_of hg).1 (PySem.W.findObj_own hh ha rfl (by rw [hl,hv])) hv' h
theorem ZgI {pl:Sem Bool} {Q:Value × List Value → Shared → Prop} (X:K.In s.heap) (I:ObjM s.heap x dx C mA) (hg:PySem.W.plainGet K C name = true)
    (hf:PySem.W.findIn K (.ref C) name = some (some (.ref f))) (ht:PySem.W.isFn K (.ref f) = true) (hv:mA name = none) (h:Q (.ref f,[.ref x]) s) :
    wpAny (model prog w) A (getMethod (.ref x) name pl) Q E s:=by
  obtain ⟨od,J,hl⟩:=I.look
  exact PySem.W.method_fn X J (PySem.W.plainGet_of hg).1 (PySem.W.plainGet_of hg).2 hf (beq_iff_eq.mp ht) (by show (PySem.W.lookIn name od).map (·.isSome) = some false; rw [hl,hv]; rfl) h
theorem Zhx {ns:List Str} {Q:Unit → Shared → Prop} (X:K.In s.heap) (I:ObjM s.heap x dx C mA)
    (hs:PySem.W.findIn K (.ref C) "__setattr__" = some (some (.builtin "object.__setattr__"))) (hp:PySem.W.plainOver K C = true) (ht:PySem.W.takerIn K C name = some none) (hh:PySem.W.hasDictIn K C = true)
    (hw:PySem.Within mA ns) (hsz:ns.length ≤ sizeLine)
    (h:∀ h',ObjM h' x dx C (fun y => if y = name then some v else mA y) → Heap.SameBut dx s.heap h' → Q () { s with heap:=h',toks:=s.toks + 2 }) :
    wpAny (model prog w) A (setAttr (.ref x) name v) Q E s:=by
  obtain ⟨od,J,hl⟩:=I.look
  refine PySem.W.set_plain X J hs (PySem.W.osa_open (s:={ s with toks:=s.toks + 1 }) (r:=none) X J hp ht fun b => ?_)
  obtain ⟨cd,hc,hd'⟩:=PySem.W.any_some hh
  have hx:s.heap.get? x = some ⟨.ref C,some dx,.plain,#[]⟩:=I.obj
  refine wpAny_bind (wpAny_pure (wpAny_bind (wpAny_bind (wpAny_loadPart hx (wpAny_bind (PySem.W.Looks.here (s:={ s with toks:=s.toks + 1 }) (PySem.W.looks_clsIn X hc) ?_))))))
  rw [hd']
  refine wpAny_pure (a:=some dx) (wpAny_bind (wpAny_pure (wpAny_bind ?_)))
  refine wpAny_nsSet1 (s:={ s with toks:=s.toks + 1 }) I.ns fun h' hn2 hs2 => ?_
  obtain ⟨oD,esD,epD,hoD,hdD,hcD⟩:=hn2.count (PySem.Within.cons name v hw)
  refine wpAny_bind (wpAny_lookBehind hoD (by rw [hdD]; exact pastItsLine_dict (Nat.le_trans hcD (by rw [List.length_cons]; omega))) ?_)
  exact wpAny_pure (h _ ⟨(hs2.2 _ (Ne.symm I.ne)).trans I.obj,hn2,I.ne⟩ hs2)
theorem ZgJ {R:Result → Shared → Prop} {vs:List Value} {kw:List (Str × Value)} (X:K.In s.heap) (hm:PySem.W.makesIn K C = true)
    (hi:PySem.W.findIn K (.ref C) "__init__" = some (some (.ref f))) (hf:PySem.W.typeIn K (.ref f) = some (.type "function"))
    (h:codeAny (model prog w) (A.under (.builtin "type.__call__" ⟨.ref C :: vs,kw⟩)) (.call (.ref f) ⟨.ref (s.heap.objs.size + 1) :: vs,kw⟩) (PySem.W.InitBack (s.heap.objs.size + 1) R)
      { s with heap:=(s.heap.push PySem.W.emptyDict).push (PySem.W.instObj C s.heap.objs.size) }) :
    codeAny (model prog w) A (.call (.ref C) ⟨vs,kw⟩) R s:=by
  obtain ⟨hh,g,d,t,os⟩:=s
  exact PySem.W.make_core (PySem.W.makes_of X hm) (PySem.W.looks_findIn X hi) (fun self => PySem.W.bind_fn X self hf) (.inl rfl) h
theorem ZfT {R:Result → Shared → Prop} (X:K.In s.heap) (hm:PySem.W.makesIn K C = true)
    (hi:PySem.W.findIn K (.ref C) "__init__" = some (some (.builtin "object.__init__")))
    (hb:∀ self,PySem.W.Looks (model prog w) s.heap (bindSpecial (.builtin "object.__init__") self) (.builtin "object.__init__", [self]))
    (h:codeAny (model prog w) (A.under (.builtin "type.__call__" ⟨[.ref C],[]⟩)) (.call (.builtin "object.__init__") ⟨[.ref (s.heap.objs.size + 1)],[]⟩) (PySem.W.InitBack (s.heap.objs.size + 1) R)
      { s with heap:=(s.heap.push PySem.W.emptyDict).push (PySem.W.instObj C s.heap.objs.size) }) :
    codeAny (model prog w) A (.call (.ref C) ⟨[],[]⟩) R s:=by
  obtain ⟨hh,g,d,t,os⟩:=s
  exact PySem.W.make_core (PySem.W.makes_of X hm) (PySem.W.looks_findIn X hi) hb (.inr ⟨rfl,rfl⟩) h
end
def ZdO (f:Str) (v:V):List (Str × V) → List (Str × V)
  | [] => [(f,v)]
  | (g,x) :: r => if g = f then (g,v) :: r else (g,x) :: ZdO f v r
theorem Zbl (f g:Str) (v:V):∀ fs:List (Str × V),(ZdO f v fs).lookup g = if g = f then some v else fs.lookup g
  | [] => by
    show List.lookup g [(f,v)] = _
    by_cases h:g = f
    · have hb:(g == f) = true:=beq_iff_eq.mpr h
      simp only [List.lookup,hb,if_pos h]
    · have hb:(g == f) = false:=beq_eq_false_iff_ne.mpr h
      simp only [List.lookup,hb,if_neg h]
  | (k,x) :: r => by
    have ih:=Zbl f g v r
    rw [show ZdO f v ((k,x) :: r) = (if k = f then (k,v) :: r else (k,x) :: ZdO f v r) from rfl]
    by_cases hk:k = f
    · rw [if_pos hk]
      by_cases h:g = k
      · have hb:(g == k) = true:=beq_iff_eq.mpr h
        simp only [List.lookup,hb,if_pos (h.trans hk)]
      · have hb:(g == k) = false:=beq_eq_false_iff_ne.mpr h
        simp only [List.lookup,hb,if_neg (fun e:g = f => h (e.trans hk.symm))]
    · rw [if_neg hk]
      by_cases h:g = k
      · have hb:(g == k) = true:=beq_iff_eq.mpr h
        simp only [List.lookup,hb,if_neg (fun e:g = f => hk (h.symm.trans e))]
      · have hb:(g == k) = false:=beq_eq_false_iff_ne.mpr h
        simp only [List.lookup,hb]
        exact ih
theorem ZcD (f:Str) (v:V):∀ fs:List (Str × V),f ∈ (ZdO f v fs).map (·.1) ∧ ∀ g,g ∈ fs.map (·.1) → g ∈ (ZdO f v fs).map (·.1)
  | [] => ⟨by simp [ZdO],fun g h => by simp at h⟩
  | (k,x) :: r => by
    obtain ⟨i1,i2⟩:=ZcD f v r
    rw [show ZdO f v ((k,x) :: r) = (if k = f then (k,v) :: r else (k,x) :: ZdO f v r) from rfl]
    by_cases hk:k = f
    · rw [if_pos hk]
      subst hk
      exact ⟨by simp,fun g h => by simpa using h⟩
    · rw [if_neg hk]
      refine ⟨?_,fun g h => ?_⟩
      · rw [List.map_cons]
        exact List.mem_cons_of_mem _ i1
      · rw [List.map_cons] at h ⊢
        rcases List.mem_cons.mp h with e | e
        · exact List.mem_cons.mpr (.inl e)
        · exact List.mem_cons_of_mem _ (i2 g e)
theorem ZcE (f:Str) (v:V):∀ fs:List (Str × V),(ZdO f v fs).length ≤ fs.length + 1
  | [] => by simp [ZdO]
  | (k,x) :: r => by
    have ih:=ZcE f v r
    rw [show ZdO f v ((k,x) :: r) = (if k = f then (k,v) :: r else (k,x) :: ZdO f v r) from rfl]
    by_cases hk:k = f
    · rw [if_pos hk,List.length_cons,List.length_cons]; omega
    · rw [if_neg hk,List.length_cons,List.length_cons]; omega
theorem RelO.some_of {v:V} {o:Option Value} (r:RelO (some v) o):∃ u,o = some u ∧ RelV v u:=by
  cases o with
  | none => exact (show False from r).elim
  | some u => exact ⟨u,rfl,r⟩
theorem RelO.none_of {o:Option Value} (r:RelO none o):o = none:=by
  cases o with
  | none => rfl
  | some u => exact (show False from r).elim
theorem ZfU {v:V} {u:Value} (r:RelV v u):PySem.W.handedIn u = true:=by
  cases v with
  | non => cases (show u = Value.none from r); rfl
  | bl b => cases (show u = Value.bool b from r); rfl
  | int i => obtain ⟨t,e⟩:=(show ∃ t,u = Value.int i t from r); cases e; rfl
  | str x => obtain ⟨t,e⟩:=(show ∃ t,u = Value.str x t from r); cases e; rfl
  | byt b => obtain ⟨t,e⟩:=(show ∃ t,u = Value.bytes b t from r); cases e; rfl
  | flt b => obtain ⟨t,e⟩:=(show ∃ t,u = Value.float b t from r); cases e; rfl
  | ref a => cases (show u = Value.ref a from r); rfl
  | ty n => cases (show u = Value.type n from r); rfl
section
variable {P:Program} {w:World} {H H':Hp} {h h':Heap} {a C dx:Addr} {fs fs':List (Str × V)}
theorem ZcF (hok:HOk P w H h) (e:H a = some (.ins C dx fs)):∃ mA,ObjM h a dx C mA ∧ (∀ f,RelO (fs.lookup f) (mA f)) ∧ PySem.Within mA (fs.map (·.1)) ∧ fs.length ≤ 1000 ∧ H dx = some (.own a):=by
  obtain ⟨d,z,ne,ob,mA,n,r,q⟩:=(show ObjOk P w H h a (.ins C dx fs) from hok a _ e)
  exact ⟨mA,⟨ob,n,ne⟩,r,q,z,d⟩
end
structure Cls (K:PySem.W.Frag) (C:Addr):Prop where
  pg:PySem.W.plainGet K C Str.empty = true
  hd:PySem.W.hasDictIn K C = true
  po:PySem.W.plainOver K C = true
  sa:PySem.W.findIn K (.ref C) "__setattr__" = some (some (.builtin "object.__setattr__"))
theorem Cls.get {K:PySem.W.Frag} {C:Addr} (c:Cls K C) (f:Str):PySem.W.plainGet K C f = true:=c.pg
def NoAttr (K:PySem.W.Frag) (C:Addr) (f:Str):Prop:=PySem.W.findIn K (.ref C) f = some none
theorem NoAttr.taker {K:PySem.W.Frag} {C:Addr} {f:Str} (n:NoAttr K C f):PySem.W.takerIn K C f = some none:=by
  unfold PySem.W.takerIn
  rw [show PySem.W.findIn K (.ref C) f = some none from n]
  rfl
structure Con (K:PySem.W.Frag) (C:Addr) (f:Str) (v:V) (u:Value):Prop where
  at_:PySem.W.findIn K (.ref C) f = some (some u)
  rel:RelV v u
  get:PySem.W.specialIn K u "__get__" = some none
  cp:PySem.W.copiedNames.contains f = false
structure Meth (K:PySem.W.Frag) (C:Addr) (m:Str) (f:Addr):Prop where
  at_:PySem.W.findIn K (.ref C) m = some (some (.ref f))
  fn:PySem.W.isFn K (.ref f) = true
  kp:PySem.W.keepIn K (.ref f) = true
section
variable {X:Cx} {pins:List (Addr × Obj)} {σ:St} {H:Hp} {s:Shared} {a C dx:Addr} {fs:List (Str × V)} {f:Str} {v:V} {A:Around} {E:Value → Shared → Prop}
theorem Zfg {b:Bool} {Q:Value → Shared → Prop} (I:Inv X pins σ H s) (e:H a = some (.ins C dx fs)) (c:Cls X.K C) (n:NoAttr X.K C f) (l:fs.lookup f = some v)
    (h:∀ u s',Inv X pins σ H s' → RelV v u → Q u s'):wpAny (model X.prog X.w) A (getAttr (.ref a) f b) Q E s:=by
  obtain ⟨mA,O,r,_,_,_⟩:=ZcF I.hok e
  obtain ⟨u,hu,ru⟩:=RelO.some_of (v:=v) (o:=mA f) (by rw [← l]; exact r f)
  exact Zhw I.kIn O (c.get f) c.hd n hu (ZfU ru) (h u _ (I.tok _) ru)
theorem Zfh {m:Str} {g:Addr} {pl:Sem Bool} {Q:Value × List Value → Shared → Prop} (I:Inv X pins σ H s) (e:H a = some (.ins C dx fs)) (c:Cls X.K C) (k:Meth X.K C m g) (l:fs.lookup m = none)
    (h:Q (.ref g,[.ref a]) s):wpAny (model X.prog X.w) A (getMethod (.ref a) m pl) Q E s:=by
  obtain ⟨mA,O,r,_,_,_⟩:=ZcF I.hok e
  have hn:mA m = none:=RelO.none_of (by rw [← l]; exact r m)
  exact ZgI I.kIn O (c.get m) k.at_ k.fn hn h
theorem Zfi {y:V} {u:Value} {Q:Unit → Shared → Prop} (I:Inv X pins σ H s) (e:H a = some (.ins C dx fs)) (c:Cls X.K C) (n:NoAttr X.K C f) (hl:fs.length < 1000) (ry:RelV y u)
    (h:∀ s',Inv X pins σ (upd H a (.ins C dx (ZdO f y fs))) s' → Q () s'):wpAny (model X.prog X.w) A (setAttr (.ref a) f u) Q E s:=by
  obtain ⟨mA,O,r,wi,_,ho⟩:=ZcF I.hok e
  have hz:(fs.map (·.1)).length ≤ sizeLine:=by rw [List.length_map,sizeLine_eq]; omega
  refine Zhx I.kIn O c.sa c.po n.taker c.hd wi hz fun h' O' sb => h _ ?_
  have hd:∃ o,h'.get? dx = some o:=let ⟨o,_,_,e',_⟩:=O'.ns; ⟨o,e'⟩
  refine I.write (x:=a) (e:=dx) (by rw [e]; exact True.intro) (.inr ho) (fun b q hb z => (sb.2 b hb).trans z) hd ?_
  refine ⟨by rw [Zan O.ne]; exact ho,?_,O.ne,O'.obj,_,O'.ns,fun g => ?_,fun g hg => ?_⟩
  · have:=ZcE f y fs; omega
  · show RelO ((ZdO f y fs).lookup g) (if g = f then some u else mA g)
    rw [Zbl]
    by_cases q:g = f
    · rw [if_pos q,if_pos q]; exact ry
    · rw [if_neg q,if_neg q]; exact r g
  · by_cases q:g = f
    · rw [q]; exact (ZcD f y fs).1
    · refine (ZcD f y fs).2 g (wi g fun z => hg ?_)
      show (if g = f then some u else mA g) = none
      rw [if_neg q]; exact z
theorem Inv.made (I:Inv X pins σ H s):Inv X pins σ (upd (upd H s.heap.objs.size (.own (s.heap.objs.size + 1))) (s.heap.objs.size + 1) (.ins C s.heap.objs.size []))
    { s with heap:=(s.heap.push PySem.W.emptyDict).push (PySem.W.instObj C s.heap.objs.size) }:=by
  have e1:(s.heap.push PySem.W.emptyDict).get? s.heap.objs.size = some PySem.W.emptyDict:=Heap.get?_push_size s.heap rfl
  have e2:((s.heap.push PySem.W.emptyDict).push (PySem.W.instObj C s.heap.objs.size)).get? (s.heap.objs.size + 1) = some (PySem.W.instObj C s.heap.objs.size):=by
    have:=Heap.get?_push_size (s.heap.push PySem.W.emptyDict) (o:=PySem.W.instObj C s.heap.objs.size) rfl
    rwa [Heap.size_push] at this
  have e3:(s.heap.push PySem.W.emptyDict).Ns s.heap.objs.size (fun _ => none):=⟨PySem.W.emptyDict,#[],_,e1,rfl,(fun e he => absurd he (by simp)),fun _ => rfl⟩
  have I1:=I.laid (a:=s.heap.objs.size) (o:=.own (s.heap.objs.size + 1)) (h':=s.heap.push PySem.W.emptyDict) (t':=s.toks) (fun b u q => Heap.get?_push_of_some _ q) (Nat.le_refl _) ⟨_,e1⟩
  refine I1.laid (a:=s.heap.objs.size + 1) (o:=.ins C s.heap.objs.size []) (t':=s.toks) (fun b u q => Heap.get?_push_of_some _ q) (Nat.le_of_eq (Heap.size_push _ _)) ?_
  have ne:s.heap.objs.size ≠ s.heap.objs.size + 1:=Nat.ne_of_lt (Nat.lt_succ_self _)
  refine ⟨by rw [Zan ne,Zaf],Nat.zero_le _,ne,e2,fun _ => none,(Heap.Ns1.of_empty e3).at fun o q => Heap.get?_push_of_some _ q,fun _ => True.intro,fun y hy => absurd rfl hy⟩
theorem Zhy {prog:Program} {w:World} {env:Env} {e:Expr} {f:Str} {pos:Pos} {s:Shared} {Q:Value → Shared → Prop} (hb:attributeBase e f env (eval e env) = eval e env)
    (h:wpAny (model prog w) A (eval e env) (fun o s₁ => wpAny (model prog w) A (getAttr o f true) Q E s₁) E s):wpAny (model prog w) A (eval (.Attribute e f pos) env) Q E s :=
  Attribute_any_ h (by rw [arm_eval_Attribute,hb])
end
def Zjv (K:PySem.W.Frag) (ta:TE) (f:Str):TE:=fun σ H Q => ta σ H fun x H1 => ∃ a C dx fs v,x = .ref a ∧ H1 a = some (.ins C dx fs) ∧ Cls K C ∧ NoAttr K C f ∧ fs.lookup f = some v ∧ Q v H1
def Zjw (K:PySem.W.Frag) (ta tv:TE) (f:Str):TS:=fun D σ H => tv σ H fun y H1 => ta σ H1 fun x H2 => ∃ a C dx fs,x = .ref a ∧ H2 a = some (.ins C dx fs) ∧ Cls K C ∧ NoAttr K C f ∧ fs.length < 1000 ∧
  D.nx σ (upd H2 a (.ins C dx (ZdO f y fs)))
section
variable {X:Cx} {o e value:Expr} {f:Str} {pos pos' tpos:Pos} {ta tv:TE}
theorem Zij (he:PE X e ta) (hb:attributeBase e f X.env (eval e X.env) = eval e X.env):PE X (.Attribute e f pos) (Zjv X.K ta f):=by
  intro pins s σ H Q I h
  refine Zhy hb (thn (he pins s σ H _ I h) fun u s1 ⟨x,H1,I1,rx,a,C,dx,fs,v,ex,ea,c,n,l,q⟩ => ?_)
  subst ex
  obtain rfl:u = Value.ref a:=rx
  exact Zfg I1 ea c n l fun u' s2 I2 ru => ⟨v,H1,I2,ru,q⟩
theorem Zik (ha:PE X o ta) (hv:PE X value tv) (hs:swapsWith value (some (.Attribute o f pos')) pos.line X.env = pure false):PS X (.Assign [.Attribute o f pos'] value pos) (Zjw X.K ta tv f):=by
  intro pins s σ H D I h
  refine plainObj_wpAny_Assign_Attribute (thn (hv pins s σ H _ I h) fun u s1 ⟨y,H1,I1,ry,q⟩ => thn (ha pins s1 σ H1 _ I1 q) fun ov s2 ⟨x,H2,I2,rx,a,C,dx,fs,ex,ea,c,n,l,q2⟩ => ?_) hs
  subst ex
  obtain rfl:ov = Value.ref a:=rx
  exact Zfi I2 ea c n l ry fun s3 I3 => ⟨σ,_,I3,q2⟩
end
section
variable {X:Cx} {pins:List (Addr × Obj)} {σ:St} {H:Hp} {s:Shared} {A:Around} {E:Value → Shared → Prop} {Q:Value → Shared → Prop} {c:Value} {b:Bool}
inductive TyOf (K:PySem.W.Frag) (H:Hp):V → Value → Prop where
  | non:TyOf K H .non (.type "NoneType")
  | bl (x:Bool):TyOf K H (.bl x) (.type "bool")
  | int (i:Int):TyOf K H (.int i) (.type "int")
  | str (x:Str):TyOf K H (.str x) (.type "str")
  | flt (x:UInt64):TyOf K H (.flt x) (.type "float")
  | lst {a:Addr} {xs:List V} (e:H a = some (.lst xs)):TyOf K H (.ref a) (.type "list")
  | frz {a:Addr} {o:Obj} {xs:List V} (e:H a = some (.frz o (.lst xs))):TyOf K H (.ref a) (.type "list")
  | tup {a:Addr} {xs:List V} (e:H a = some (.tup xs)):TyOf K H (.ref a) (.type "tuple")
  | dK {a:Addr} {kvs:List (Key × V)} (e:H a = some (.dK kvs)):TyOf K H (.ref a) (.type "dict")
  | dT {a:Addr} {kvs:List (List Key × V)} (e:H a = some (.dT kvs)):TyOf K H (.ref a) (.type "dict")
  | ins {a C dx:Addr} {fs:List (Str × V)} (e:H a = some (.ins C dx fs)) (cl:Cls K C) (ha:PySem.W.findIn K (.ref C) "__class__" = some (some (.builtin "object.__class__")))
      (hn:PySem.W.specialIn K (.builtin "object.__class__") "__get__" = some (some (.builtin "getset_descriptor.__get__"))) (htk:PySem.W.takesIn K (.builtin "object.__class__") = some true)
      (hm:PySem.W.mroIn K C (.type "object") = some true):TyOf K H (.ref a) (.ref C)
theorem ZfV {x:V} {u t:Value} (I:Inv X pins σ H s) (rx:RelV x u) (ty:TyOf X.K H x t) (e:PySem.W.kitOne X.K t c = some b) (h:∀ tk,Q (.bool b) { s with toks:=tk }) :
    wpAny (model X.prog X.w) A (call (.builtin "isinstance") [u,c]) Q E s:=by
  cases ty with
  | non => cases (show u = Value.none from rx); exact PySem.W.kia_one PySem.W.kitx_none I.kIn True.intro e (fun z => nomatch z) h
  | bl y => cases (show u = Value.bool y from rx); exact PySem.W.kia_one PySem.W.kitx_bool I.kIn True.intro e (fun z => nomatch z) h
  | int i => obtain ⟨t,q⟩:=(show ∃ t,u = Value.int i t from rx); cases q; exact PySem.W.kia_one PySem.W.kitx_int I.kIn True.intro e (fun z => nomatch z) h
  | str y => obtain ⟨t,q⟩:=(show ∃ t,u = Value.str y t from rx); cases q; exact PySem.W.kia_one PySem.W.kitx_str I.kIn True.intro e (fun z => nomatch z) h
  | flt y => obtain ⟨t,q⟩:=(show ∃ t,u = Value.float y t from rx); cases q; exact PySem.W.kia_one PySem.W.kitx_float I.kIn True.intro e (fun z => nomatch z) h
  | @lst a xs ea =>
    cases (show u = Value.ref a from rx)
    obtain ⟨_,_,n,_,h1⟩:=(show ObjOk X.prog X.w H s.heap a (.lst xs) from I.hok a _ ea)
    exact PySem.W.kia_one PySem.W.kitx_list I.kIn ⟨_,h1,rfl⟩ e (fun z => nomatch z) h
  | @frz a ob xs ea =>
    cases (show u = Value.ref a from rx)
    obtain ⟨_,_,_,n,_,h1⟩:=(show ObjOk X.prog X.w H s.heap a (.frz ob (.lst xs)) from I.hok a _ ea)
    exact PySem.W.kia_one PySem.W.kitx_list I.kIn ⟨_,h1,rfl⟩ e (fun z => nomatch z) h
  | @tup a xs ea =>
    cases (show u = Value.ref a from rx)
    obtain ⟨_,_,_,p⟩:=(show ObjOk X.prog X.w H s.heap a (.tup xs) from I.hok a _ ea)
    obtain ⟨o,h1,h2,_⟩:=p
    exact PySem.W.kia_one PySem.W.kitx_tuple I.kIn ⟨o,h1,h2⟩ e (fun z => nomatch z) h
  | @dK a kvs ea =>
    cases (show u = Value.ref a from rx)
    obtain ⟨_,_,vs,_,p⟩:=(show ObjOk X.prog X.w H s.heap a (.dK kvs) from I.hok a _ ea)
    obtain ⟨o,es,ep,h1,h2,_⟩:=p
    exact PySem.W.kia_one PySem.W.kitx_dict I.kIn ⟨o,h1,h2.1⟩ e (fun z => nomatch z) h
  | @dT a kvs ea =>
    cases (show u = Value.ref a from rx)
    obtain ⟨_,_,xs,_,o,es,ep,h1,h2,_⟩:=(show ObjOk X.prog X.w H s.heap a (.dT kvs) from I.hok a _ ea)
    exact PySem.W.kia_one PySem.W.kitx_dict I.kIn ⟨o,h1,h2.1⟩ e (fun z => nomatch z) h
  | @ins a C dx fs ea cl ha hn htk hm =>
    cases (show u = Value.ref a from rx)
    obtain ⟨mA,O,_⟩:=ZcF I.hok ea
    obtain ⟨od,J,_⟩:=O.look
    exact PySem.W.kia_one (PySem.W.kitx_own (cl.get _) cl.hd ha hn htk hm) I.kIn J e (fun z => nomatch z) h
end
end L2
namespace L2
open PySem PySem.Spec PyProof.Rows
structure Room (k:Nat) (A:Around):Prop where
  hd:A.handled = none
  dp:A.depth + 3 * k + 5 < recursionLimit
  un:A.units + 16 * k + 200 < cLine
theorem Room.mono {j k:Nat} {A:Around} (r:Room k A) (h:j ≤ k):Room j A:=⟨r.hd,by have:=r.dp; omega,by have:=r.un; omega⟩
theorem Room.deeper {k:Nat} {A:Around} (r:Room (k + 1) A) (env:Env):Room k (A.deeper env) :=
  ⟨r.hd,by have:=r.dp; show A.depth + 1 + 3 * k + 5 < _; omega,by have:=r.un; show A.units + 3 + 16 * k + 200 < _; omega⟩
theorem Room.in1 {k:Nat} {A:Around} (r:Room (k + 1) A):Room k A.in1 :=
  ⟨r.hd,by have:=r.dp; show A.depth + 3 * k + 5 < _; omega,by have:=r.un; show A.units + 1 + 16 * k + 200 < _; omega⟩
theorem Zfj {A:Around} {C:Addr} {us:List Value} {kw:List (Str × Value)}:(A.under (.builtin "type.__call__" ⟨.ref C :: us,kw⟩)).depth = A.depth + 1:=by
  first | rfl | simp [Around.under,Code.weight,Code.isCreation,Code.isGuard,Code.isCaller,Code.frames,Code.isFrame,guardIds]
theorem Zfk {A:Around} {C:Addr} {us:List Value} {kw:List (Str × Value)}:(A.under (.builtin "type.__call__" ⟨.ref C :: us,kw⟩)).units = A.units + 1:=by
  first | rfl | simp [Around.under,Code.cUnits,Code.frames,Code.isFrame]
theorem Room.make {k:Nat} {A:Around} (r:Room (k + 1) A) (C:Addr) (us:List Value) (kw:List (Str × Value)):Room k (A.under (.builtin "type.__call__" ⟨.ref C :: us,kw⟩)) :=
  ⟨r.hd,by have:=r.dp; rw [Zfj]; omega,by have:=r.un; rw [Zfk]; omega⟩
theorem Room.depth {k:Nat} {A:Around} (r:Room k A):A.depth < recursionLimit:=by have:=r.dp; omega
theorem Room.units {k:Nat} {A:Around} (r:Room k A):A.units + 64 < cLine:=by have:=r.un; omega
theorem Room.units0 {k:Nat} {A:Around} (r:Room k A):A.units < cLine:=by have:=r.un; omega
def Zjx:TA:=fun _ H Q => Q [] H
def Zil (ta:TE) (tr:TA):TA:=fun σ H Q => ta σ H fun x H1 => tr σ H1 fun xs H2 => Q (x :: xs) H2
section
variable {X:Cx} {e:Expr} {es:List Expr} {te:TE} {t:TA} {pos:Pos}
theorem Zac:PA X [] Zjx:=fun _ _ _ _ H Q I h => Calls.spliced_nil ⟨[],H,I,.nil,h⟩
theorem Zaa (ha:PE X e te) (hr:PA X es t) (hs:starEach (e :: es) X.env = (false,eval e X.env) :: starEach es X.env:=by rfl):PA X (e :: es) (Zil te t):=by
  intro pos pins s σ H Q I h
  rw [hs]
  show wpAny _ _ (spliced ((false,eval e X.env) :: backTo pos (starEach es X.env))) _ _ s
  refine Calls.spliced_cons (thn (ha pins s σ H _ I h) fun u s1 ⟨x,H1,I1,r1,q1⟩ => ?_)
  exact thn (hr pos pins s1 σ H1 _ I1 q1) fun us s2 ⟨xs,H2,I2,r2,q2⟩ => ⟨x :: xs,H2,I2,.cons r1 r2,q2⟩
def Zjy (t:TA):TE:=fun σ H Q => t σ H fun xs H1 => xs.length ≤ sizeLine ∧ ∀ p,H1 p = none → Q (.ref p) (upd H1 p (.tup xs))
def Zje (t:TA):TE:=fun σ H Q => t σ H fun xs H1 => xs.length ≤ sizeLine ∧ ∀ p,H1 p = none → Q (.ref p) (upd H1 p (.lst xs))
theorem Zc9 {x1} (h:PA X es t):PE X (.Tuple es x1 pos) (Zjy t):=by
  intro pins s σ H Q I hq
  refine wpAny_Tuple_spliced (thn (h pos pins s σ H _ I hq) fun us s1 ⟨xs,H1,I1,r,z,q⟩ => ⟨by rw [← r.length]; exact z,?_⟩)
  have hf:H1 s1.heap.objs.size = none:=I1.hok.fresh (Nat.le_refl _)
  refine ⟨.ref s1.heap.objs.size,upd H1 s1.heap.objs.size (.tup xs),I1.laid (t':=s1.toks) (fun b u e => Heap.get?_push_of_some _ e) (Nat.le_refl _) ?_,rfl,q _ hf⟩
  exact ⟨z,us,r,⟨_,Heap.get?_push_size _ rfl,rfl,_,rfl⟩⟩
theorem Zch (h:PA X es t):PE X (.List es pos) (Zje t):=by
  intro pins s σ H Q I hq
  refine wpAny_List_spliced (thn (h pos pins s σ H _ I hq) fun us s1 ⟨xs,H1,I1,r,z,q⟩ => ⟨by rw [← r.length]; exact z,?_⟩)
  have hf:H1 s1.heap.objs.size = none:=I1.hok.fresh (Nat.le_refl _)
  refine ⟨.ref s1.heap.objs.size,upd H1 s1.heap.objs.size (.lst xs),I1.laid (t':=s1.toks) (fun b u e => Heap.get?_push_of_some _ e) (Nat.le_refl _) ?_,rfl,q _ hf⟩
  exact ⟨z,us,0,r,Heap.get?_push_size _ rfl⟩
end
abbrev Sp:=List V → Hp → VK → XK → Prop
abbrev CXT:=List Env → Hp → Shared → XK → Value → Shared → Prop
structure Env0 (P:Program) (w:World) (K:PySem.W.Frag) (mg:Str → Option Value) (base:Heap) (A:Around) (outer:List Env) (s:Shared) (H:Hp):Prop where
  frames:A.frames = some outer
  mod:Mod K mg base
  bs:∀ b o,base.get? b = some o → s.heap.get? b = some o ∧ H b = none
  bsz:base.objs.size ≤ s.heap.objs.size
  funs:s.heap.FunFrames base outer
  frf:∀ b ∈ frs outer,H b = none
  hok:HOk P w H s.heap
  bare:AllBare s.gens
def CE (outer:List Env) (P:Program) (w:World) (H:Hp) (s:Shared) (Q:VK) (u:Value) (s':Shared):Prop :=
  ∃ v H',s'.os = s.os ∧ AllBare s'.gens ∧ Un (frs outer) [] H H' s.heap s'.heap ∧ HOk P w H' s'.heap ∧ RelV v u ∧ Q v H'
def CR (CX:CXT) (outer:List Env) (P:Program) (w:World) (H:Hp) (s:Shared) (Q:VK) (E:XK) (r:Result) (s':Shared):Prop :=
  match r with
  | .ok (.ret u) => CE outer P w H s Q u s'
  | .ok _ => False
  | .error e => CX outer H s E e s'
structure FnOk (P:Program) (w:World) (K:PySem.W.Frag) (mg:Str → Option Value) (base:Heap) (CX:CXT) (k:Nat) (f:Addr) (fd:FuncData) (ps:List Str) (sp:Sp):Prop where
  len:∀ vs H Q E,sp vs H Q E → vs.length = ps.length
  run:∀ (A:Around) (outer:List Env) (s:Shared) (H:Hp) (args:Args) (us:List Value) (vs:List V) (Q:VK) (E:XK),Room k A → Env0 P w K mg base A outer s H → BindsTo s fd args (ps.zip us) → Vals vs us → sp vs H Q E →
    codeAny (model P w) A (.call (.ref f) args) (CR CX outer P w H s Q E) s
theorem FnOk.mono {P:Program} {w:World} {K:PySem.W.Frag} {mg:Str → Option Value} {base:Heap} {CX:CXT} {j k:Nat} {f:Addr} {fd:FuncData} {ps:List Str} {sp:Sp} (F:FnOk P w K mg base CX j f fd ps sp) (h:j ≤ k) :
    FnOk P w K mg base CX k f fd ps sp:=⟨F.len,fun A outer s H args us vs Q E hr => F.run A outer s H args us vs Q E (hr.mono h)⟩
theorem FnOk.imp {P:Program} {w:World} {K:PySem.W.Frag} {mg:Str → Option Value} {base:Heap} {CX:CXT} {k:Nat} {f:Addr} {fd:FuncData} {ps:List Str} {sp sp':Sp} (F:FnOk P w K mg base CX k f fd ps sp)
    (h:∀ vs H Q E,sp' vs H Q E → sp vs H Q E):FnOk P w K mg base CX k f fd ps sp' :=
  ⟨fun vs H Q E q => F.len vs H Q E (h _ _ _ _ q),fun A outer s H args us vs Q E hr he hb hv hs => F.run A outer s H args us vs Q E hr he hb hv (h _ _ _ _ hs)⟩
theorem Env0.make {P:Program} {w:World} {K:PySem.W.Frag} {mg:Str → Option Value} {base:Heap} {A:Around} {outer:List Env} {s:Shared} {H:Hp} (e:Env0 P w K mg base A outer s H) (C:Addr) (us:List Value) (kw:List (Str × Value)) :
    Env0 P w K mg base (A.under (.builtin "type.__call__" ⟨.ref C :: us,kw⟩)) outer s H:=⟨by first | exact e.frames | (simpa [Around.under,Code.envs,Code.isFrame,pushEnvs] using e.frames),e.mod,e.bs,e.bsz,e.funs,e.frf,e.hok,e.bare⟩
theorem Env0.in1 {P:Program} {w:World} {K:PySem.W.Frag} {mg:Str → Option Value} {base:Heap} {A:Around} {outer:List Env} {s:Shared} {H:Hp} (e:Env0 P w K mg base A outer s H) :
    Env0 P w K mg base A.in1 outer s H:=⟨e.frames,e.mod,e.bs,e.bsz,e.funs,e.frf,e.hok,e.bare⟩
section
variable {X:Cx} {pins:List (Addr × Obj)} {σ:St} {H:Hp} {s s':Shared}
theorem Inv.env0 (I:Inv X pins σ H s):Env0 X.prog X.w X.K X.mg X.base X.A X.stack s H :=
  ⟨I.ok.frames,I.ok.mod,I.bs,Nat.le_trans I.ok.bsz I.sz,I.stack,I.stkFree,I.hok,I.bare⟩
theorem Inv.after {Q:VK} {u:Value} (I:Inv X pins σ H s) (h:CE X.stack X.prog X.w H s Q u s'):EP X pins σ Q u s':=by
  obtain ⟨v,H',os,bare,un,hok,r,q⟩:=h
  obtain ⟨hh,g,d,t,os'⟩:=s'
  obtain rfl:os' = s.os:=os
  exact ⟨v,H',I.call (h':=hh) (g':=g) (d':=d) (t':=t) (ch:=[]) un hok bare (fun b z => absurd z (by simp)),r,q⟩
end
def Zim (sp:Sp) (dvs:List V) (E:XK) (t:TA):TE:=fun σ H Q => t σ H fun vs H1 => sp (vs ++ dvs) H1 Q E
def Zin (C:Addr) (sp:Sp) (dvs:List V) (E:XK) (t:TA):TE:=fun σ H Q => t σ H fun vs H1 => ∀ x dx,H1 x = none → H1 dx = none → dx ≠ x →
  sp (.ref x :: (vs ++ dvs)) (upd (upd H1 dx (.own x)) x (.ins C dx [])) (fun v H2 => v = .non ∧ Q (.ref x) H2) E
def Binds (K:PySem.W.Frag) (fd:FuncData) (ps:List Str) (ds:List Value):Prop :=
  ∀ (s:Shared) (us:List Value),K.In s.heap → (us ++ ds).length = ps.length → BindsTo s fd ⟨us,[]⟩ (ps.zip (us ++ ds))
theorem Binds.all {K:PySem.W.Frag} {fd:FuncData} {ps:List Str} (h:∀ us:List Value,us.length = ps.length → bindArgs fd ⟨us,[]⟩ = pure (ps.zip us)):Binds K fd ps []:=fun s us _ hl => by
  rw [List.append_nil] at hl ⊢
  exact .of_eq (h us hl)
def ZdP (CX:CXT) (X:Cx) (E:XK):Prop:=∀ (pins:List (Addr × Obj)) (σ:St) (H:Hp) (s:Shared) (e:Value) (s':Shared),Inv X pins σ H s → CX X.stack H s E e s' → X.xe e s'
section
variable {X:Cx} {CX:CXT} {k:Nat} {f C:Addr} {fd:FuncData} {ps:List Str} {sp:Sp} {dvs:List V} {ds:List Value} {E:XK} {x m:Str} {p pos apos:Pos} {e o:Expr} {es:List Expr} {ta:TE} {t:TA}
theorem Zhb {pins:List (Addr × Obj)} {σ:St} {H:Hp} {s:Shared} {Q:VK} {us:List Value} {vs:List V} (F:FnOk X.prog X.w X.K X.mg X.base CX k f fd ps sp) (hr:Room k X.A) (hb:Binds X.K fd ps ds) (hd:Vals dvs ds) (hx:ZdP CX X E)
    (I:Inv X pins σ H s) (r:Vals vs us) (h:sp (vs ++ dvs) H Q E):wpAny (model X.prog X.w) X.A (call (.ref f) us) (EP X pins σ Q) X.xe s:=by
  have r2:Vals (vs ++ dvs) (us ++ ds):=r.append hd
  have hl:(us ++ ds).length = ps.length:=by rw [← r2.length]; exact F.len _ _ _ _ h
  refine wpAny_call (codeAny_mono (F.run X.A X.stack s H ⟨us,[]⟩ (us ++ ds) (vs ++ dvs) Q E hr I.env0 (hb s us I.kIn hl) r2 h) fun r s' hq => ?_)
  cases r with
  | error e => exact hx pins σ H s e s' I hq
  | ok fl =>
    cases fl with
    | ret u => exact I.after hq
    | next => exact False.elim hq
    | brk => exact False.elim hq
    | cont => exact False.elim hq
theorem Zhz (F:FnOk X.prog X.w X.K X.mg X.base CX k f fd ps sp) (hr:Room k X.A) (hg:Gl X x) (hm:X.mg x = some (.ref f)) (hk:PySem.W.keepIn X.K (.ref f) = true) (hb:Binds X.K fd ps ds) (hd:Vals dvs ds) (hx:ZdP CX X E)
    (ha:PA X (e :: es) t) (hdb:(x == ("__debug__" : Str)) = false:=by decide) (he:starEach (e :: es) X.env = (false,eval e X.env) :: starEach es X.env:=by rfl) (hpl:(backTo pos (starEach es X.env)).any (·.1) = false:=by rfl) :
    PE X (.Call (.Name x p) (e :: es) [] pos) (Zim sp dvs E t):=by
  intro pins s σ H Q I h
  refine wpAny_Call_Name_kw (ZbJ I hg hm ?_ hdb)
  refine PySem.W.callWith_K (h₀:=X.base) I.ok.mod.kin hk (thn (ha pos pins s σ H _ I h) fun us s1 ⟨vs,H1,I1,r,q⟩ => ⟨I1.kIn,?_⟩) he hpl
  exact Zhb F hr hb hd hx I1 r q
structure Mk (K:PySem.W.Frag) (C f:Addr):Prop where
  makes:PySem.W.makesIn K C = true
  init:PySem.W.findIn K (.ref C) "__init__" = some (some (.ref f))
  fn:PySem.W.isFn K (.ref f) = true
  kp:PySem.W.keepIn K (.ref C) = true
theorem ZgK {pins:List (Addr × Obj)} {σ:St} {H:Hp} {s:Shared} {Q:VK} {us:List Value} {vs:List V} (M:Mk X.K C f) (F:FnOk X.prog X.w X.K X.mg X.base CX k f fd ps sp) (hr:Room (k + 1) X.A) (hb:Binds X.K fd ps ds) (hd:Vals dvs ds)
    (hx:ZdP CX X E) (I:Inv X pins σ H s) (r:Vals vs us)
    (h:∀ x dx,H x = none → H dx = none → dx ≠ x → sp (.ref x :: (vs ++ dvs)) (upd (upd H dx (.own x)) x (.ins C dx [])) (fun v H2 => v = .non ∧ Q (.ref x) H2) E) :
    wpAny (model X.prog X.w) X.A (call (.ref C) us) (EP X pins σ Q) X.xe s:=by
  have hq:=h (s.heap.objs.size + 1) s.heap.objs.size (I.hok.fresh (Nat.le_succ _)) (I.hok.fresh (Nat.le_refl _)) (Nat.ne_of_lt (Nat.lt_succ_self _))
  have I2:=Inv.made (C:=C) I
  have r2:Vals (V.ref (s.heap.objs.size + 1) :: (vs ++ dvs)) (Value.ref (s.heap.objs.size + 1) :: (us ++ ds)):=.cons rfl (r.append hd)
  have hl:(Value.ref (s.heap.objs.size + 1) :: us ++ ds).length = ps.length:=by
    have e:=r2.length
    rw [F.len _ _ _ _ hq] at e
    exact e.symm
  refine wpAny_call (ZgJ (f:=f) I.kIn M.makes M.init (beq_iff_eq.mp M.fn) (codeAny_mono (F.run _ X.stack _ _ ⟨Value.ref (s.heap.objs.size + 1) :: us,[]⟩ (Value.ref (s.heap.objs.size + 1) :: (us ++ ds)) _ _ E (hr.make C us [])
    (I2.env0.make C us []) (hb _ (Value.ref (s.heap.objs.size + 1) :: us) I2.kIn hl) r2 hq) fun r s' hq' => ?_))
  cases r with
  | error e => exact hx pins σ _ _ e s' I2 hq'
  | ok fl =>
    cases fl with
    | ret u =>
      obtain ⟨v,H',I3,rv,ev,q3⟩:=I2.after hq'
      subst ev
      exact ⟨rv,⟨V.ref (s.heap.objs.size + 1),H',I3,rfl,q3⟩⟩
    | next => exact False.elim hq'
    | brk => exact False.elim hq'
    | cont => exact False.elim hq'
theorem ZhA (M:Mk X.K C f) (F:FnOk X.prog X.w X.K X.mg X.base CX k f fd ps sp) (hr:Room (k + 1) X.A) (hg:Gl X x) (hm:X.mg x = some (.ref C)) (hb:Binds X.K fd ps ds) (hd:Vals dvs ds) (hx:ZdP CX X E)
    (ha:PA X (e :: es) t) (hdb:(x == ("__debug__" : Str)) = false:=by decide) (he:starEach (e :: es) X.env = (false,eval e X.env) :: starEach es X.env:=by rfl) (hpl:(backTo pos (starEach es X.env)).any (·.1) = false:=by rfl) :
    PE X (.Call (.Name x p) (e :: es) [] pos) (Zin C sp dvs E t):=by
  intro pins s σ H Q I h
  refine wpAny_Call_Name_kw (ZbJ I hg hm ?_ hdb)
  refine PySem.W.callWith_K (h₀:=X.base) I.ok.mod.kin M.kp (thn (ha pos pins s σ H _ I h) fun us s1 ⟨vs,H1,I1,r,q⟩ => ⟨I1.kIn,?_⟩) he hpl
  exact ZgK M F hr hb hd hx I1 r q
end
def PK (X:Cx) (kws:List Keyword) (t:TA):Prop :=
  ∀ (pos:Pos) (pins:List (Addr × Obj)) (s:Shared) (σ:St) (H:Hp) (Q:List V → Hp → Prop),Inv X pins σ H s → t σ H Q → wpAny (model X.prog X.w) X.A (evalAll ((backToKw pos (keywordEach kws X.env)).map (·.2))) (AP X pins σ Q) X.xe s
section
variable {X:Cx} {CX:CXT} {k:Nat} {f C:Addr} {fd:FuncData} {ps ks:List Str} {sp:Sp} {E:XK} {x m:Str} {p pos apos kpos:Pos} {e o:Expr} {es:List Expr} {kws:List Keyword} {te ta:TE} {t tk:TA} {nm:Option Str}
structure KBinds (K:PySem.W.Frag) (fd:FuncData) (ps ks:List Str) (g:List Value → List Value → List Value) (gV:List V → List V → List V):Prop where
  to:∀ (s:Shared) (us ws:List Value),K.In s.heap → (g us ws).length = ps.length → BindsTo s fd ⟨us,ks.zip ws⟩ (ps.zip (g us ws))
  rel:∀ {vs:List V} {us:List Value} {zs:List V} {ws:List Value},Vals vs us → Vals zs ws → Vals (gV vs zs) (g us ws)
variable {g:List Value → List Value → List Value} {gV:List V → List V → List V}
end
structure FnScope (N P:List Str) (sc:Scope):Prop where
  kind:sc.kind = .function
  co:sc.isCoroutine = false
  gen:sc.isGenerator = false
  nd:N.Nodup
  pre:N.take P.length = P
  par:∀ x ∈ P,sc.names.lookup x = some .local ∨ sc.names.lookup x = some .cell
  nofree:∀ y ∈ sc.names,y.2 ≠ .free
theorem ZdQ {kindOf:Str → Option NameKind} {x:Str}:∀ {binds:List (Str × Value)} {m:Str → Option Value},(∀ v,(x,v) ∉ binds) → bindL kindOf binds m x = m x
  | [],_,_ => rfl
  | (n,v) :: r,m,h => by
    unfold bindL
    rw [ZdQ fun w hw => h w (List.mem_cons_of_mem _ hw)]
    split
    · have:x ≠ n:=by rintro rfl; exact h v List.mem_cons_self
      simp [this]
    · rfl
theorem ZdR {kindOf:Str → Option NameKind} {x:Str}:∀ {binds:List (Str × Value)} {m:Str → Option Value},(∀ v,(x,v) ∉ binds) → bindC kindOf binds m x = m x
  | [],_,_ => rfl
  | (n,v) :: r,m,h => by
    unfold bindC
    rw [ZdR fun w hw => h w (List.mem_cons_of_mem _ hw)]
    split
    · rfl
    · have:x ≠ n:=by rintro rfl; exact h v List.mem_cons_self
      simp [this]
theorem ZdS {kindOf:Str → Option NameKind} {x:Str} {v:Value}:∀ {P:List Str} {vs:List Value} {i:Nat} {m:Str → Option Value},P.Nodup → P[i]? = some x → vs[i]? = some v → kindOf x = some .local →
    bindL kindOf (P.zip vs) m x = some v
  | [],_,_,_,_,h,_,_ => by simp at h
  | _ :: _,[],_,_,_,_,h,_ => by simp at h
  | p :: P,w :: vs,0,m,nd,h1,h2,hk => by
    simp at h1 h2; subst h1; subst h2
    show bindL kindOf ((p,w) :: P.zip vs) m p = _
    unfold bindL
    rw [ZdQ fun v hv => (List.nodup_cons.mp nd).1 (List.of_mem_zip hv).1,if_pos hk]
    simp
  | p :: P,w :: vs,i + 1,m,nd,h1,h2,hk => by
    show bindL kindOf ((p,w) :: P.zip vs) m x = _
    unfold bindL
    exact ZdS (i:=i) (List.nodup_cons.mp nd).2 (by simpa using h1) (by simpa using h2) hk
theorem ZdT {kindOf:Str → Option NameKind} {x:Str} {v:Value}:∀ {P:List Str} {vs:List Value} {i:Nat} {m:Str → Option Value},P.Nodup → P[i]? = some x → vs[i]? = some v → kindOf x ≠ some .local →
    bindC kindOf (P.zip vs) m x = some v
  | [],_,_,_,_,h,_,_ => by simp at h
  | _ :: _,[],_,_,_,_,h,_ => by simp at h
  | p :: P,w :: vs,0,m,nd,h1,h2,hk => by
    simp at h1 h2; subst h1; subst h2
    show bindC kindOf ((p,w) :: P.zip vs) m p = _
    unfold bindC
    rw [ZdR fun v hv => (List.nodup_cons.mp nd).1 (List.of_mem_zip hv).1,if_neg hk]
    simp
  | p :: P,w :: vs,i + 1,m,nd,h1,h2,hk => by
    show bindC kindOf ((p,w) :: P.zip vs) m x = _
    unfold bindC
    exact ZdT (i:=i) (List.nodup_cons.mp nd).2 (by simpa using h1) (by simpa using h2) hk
def start (N:List Str) (vs:List V):St:=vs.map some ++ List.replicate (N.length - vs.length) none
def Zhc (CX:CXT) (P:Program) (w:World) (K:PySem.W.Frag) (mg:Str → Option Value) (base:Heap) (N:List Str) (qual:Str) (scope:Scope) (f:Addr) (cd:Value) (A:Around) (outer:List Env) (s:Shared) (H:Hp) (E:XK):Cx where
  prog:=P
  w:=w
  K:=K
  mg:=mg
  base:=base
  A:=A.deeper (envOfC qual scope s.heap.objs.size f cd)
  N:=N
  s₀:=s
  H₀:=H
  env:=envOfC qual scope s.heap.objs.size f cd
  outer:=outer
  stack:=envOfC qual scope s.heap.objs.size f cd :: outer
  ex:=[]
  calm:=true
  fn:=fun _ => true
  pn:=[]
  xe:=fun e s' => wpAny (model P w) (A.deeper (envOfC qual scope s.heap.objs.size f cd)) (leaving (envOfC qual scope s.heap.objs.size f cd) e) (fun _ s'' => CX outer H s E e s'') (fun e' s'' => CX outer H s E e' s'') s'
theorem ZeS {sc:Scope} {n:Nat} {x:Str} (h:sc.names.lookup x = some .cell):∃ c,(cellsFrom n sc.names []).lookup x = some c:=by
  have q:=PySem.W.cellsFrom_some sc.names n [] (.inl h)
  exact Option.isSome_iff_exists.mp q
theorem ZfW {CX:CXT} {P:Program} {w:World} {K:PySem.W.Frag} {mg:Str → Option Value} {base:Heap} {N ps:List Str} {qual:Str} {scope:Scope} {f:Addr} {cd:Value} {A:Around} {outer:List Env} {s s1:Shared} {H:Hp} {E:XK} {us:List Value} {vs:List V}
    (S:FnScope N ps scope) (hd:A.handled = none) (e0:Env0 P w K mg base A outer s H) (hl:vs.length = ps.length) (r:Vals vs us)
    (x:InCallC s s.heap.objs.size (bindL (envOfC qual scope s.heap.objs.size f cd).kindOf (ps.zip us) fun _ => none) (cellsFrom (s.heap.objs.size + 1) scope.names []) (bindC (envOfC qual scope s.heap.objs.size f cd).kindOf (ps.zip us) fun _ => none) s1) :
    Inv (Zhc CX P w K mg base N qual scope f cd A outer s H E) [] (start N vs) H s1:=by
  have hpl:ps.length ≤ N.length:=by have:=congrArg List.length S.pre; rw [List.length_take] at this; omega
  obtain ⟨h1,tk,rfl,hk⟩:=x.done
  have noA:∀ b:Addr,b ∉ (Zhc CX P w K mg base N qual scope f cd A outer s H E).ex:=fun b z => absurd (show b ∈ ([]:List Addr) from z) (by simp)
  refine ⟨⟨e0.mod,S.kind,rfl,rfl,Nat.le_refl _,fun y z c h1 h2 => ?_,fun y hy => ?_,fun y c _ h => ?_,fun _ => hd,Around.frames_deeper e0.frames,.inr ⟨rfl,rfl⟩,fun b z => absurd z (noA b),e0.bs,e0.bsz,fun b _ _ => noA b,fun b z => absurd z (noA b),e0.funs,e0.frf⟩,
    rfl,e0.bare,Un.kept hk,⟨_,x.toInCall.ns,fun i y v h1 h2 h3 => ?_⟩,fun y c h => ⟨_,x.cell y c h⟩,e0.hok.fresh (Nat.le_refl _),fun y c h => ?_,fun p hp => absurd (show p ∈ ([]:List (Addr × Obj)) from hp) (by simp),e0.hok.kept hk,?_⟩
  · exact name_of_addr x.apart (PySem.mem_of_lookup h1) (PySem.mem_of_lookup h2)
  · have hy:scope.names.lookup y = some .cell ∨ scope.names.lookup y = some .free:=hy
    rcases hy with hy | hy
    · exact ZeS hy
    · exact absurd rfl (S.nofree _ (PySem.mem_of_lookup hy))
  · exact Nat.le_of_lt (x.above y c (PySem.mem_of_lookup h))
  · have hi:i < vs.length:=by
      unfold start at h2
      by_cases hi:i < vs.length
      · exact hi
      · rw [List.getElem?_append_right (by simpa using hi)] at h2
        rw [List.getElem?_replicate] at h2
        split at h2 <;> cases h2
    have ha:vs[i]? = some v:=by
      unfold start at h2
      rw [List.getElem?_append_left (by simpa using hi),List.getElem?_map] at h2
      cases e:vs[i]? with
      | none => rw [e] at h2; cases h2
      | some a => rw [e] at h2; cases h2; rfl
    obtain ⟨u,hu,rv⟩:=r.get ha
    have hp:ps[i]? = some y:=by
      rw [← S.pre,List.getElem?_take_of_lt (by omega)]; exact h1
    have ndP:ps.Nodup:=by rw [← S.pre]; exact S.nd.sublist (List.take_sublist _ _)
    refine ⟨u,rv,?_⟩
    rcases S.par y (List.mem_of_getElem? hp) with k | k
    · exact .inl ⟨k,ZdS ndP hp hu k⟩
    · obtain ⟨c,e⟩:=ZeS (n:=s.heap.objs.size + 1) k
      refine .inr ⟨.inl k,c,e,?_⟩
      have q:=x.cell y c e
      rw [ZdT ndP hp hu (by show scope.names.lookup y ≠ _; rw [k]; decide)] at q
      exact q
  · exact e0.hok.fresh (Nat.le_of_lt (x.above y c (PySem.mem_of_lookup h)))
  · unfold start
    show _ = N.length
    rw [List.length_append,List.length_map,List.length_replicate]
    omega
theorem ZgL {CX:CXT} {P:Program} {w:World} {K:PySem.W.Frag} {mg:Str → Option Value} {base:Heap} {k:Nat} {f:Addr} {name qual:Str} {params:Arguments} {body:List Stmt} {scope:Scope} {dV kV doc pm cdv ct oc:Value} {an od:Option Addr}
    {osl:Array (Option Value)} {N ps:List Str} {sp:Sp} (lk:K.lookup f = some ⟨oc,od,.func (PySem.W.fnOf name qual params body scope dV kV doc pm an cdv ct),osl⟩) (hcd:PySem.W.codeIn K cdv qual = true) (S:FnScope N ps scope)
    (len:∀ vs H Q E,sp vs H Q E → vs.length = ps.length)
    (hbody:∀ (A:Around) (outer:List Env) (s:Shared) (H:Hp) (vs:List V) (Q:VK) (E:XK),Room k (A.deeper (envOfC qual scope s.heap.objs.size f cdv)) → sp vs H Q E →
      ∃ t,PSs (Zhc CX P w K mg base N qual scope f cdv A outer s H E) body t ∧ t { nx:=fun _ H' => Q .non H',rt:=Q } (start N vs) H) :
    FnOk P w K mg base CX (k + 1) f (PySem.W.fnOf name qual params body scope dV kV doc pm an cdv ct) ps sp:=by
  refine ⟨len,fun A outer s H args us vs Q E hr e0 hb r hsp => ?_⟩
  have hl:=len _ _ _ _ hsp
  have KX:K.In s.heap:=e0.mod.kin.keeps fun b o e => (e0.bs b o e).1
  have lim:s.heap.NoLimit:=e0.mod.nolimit.keeps fun b o e => (e0.bs b o e).1
  have hkind:∀ y ∈ ps.zip us,scope.names.lookup y.1 = some .local ∨ (scope.names.lookup y.1 = some .cell ∧ ((cellsFrom (s.heap.objs.size + 1) scope.names []).lookup y.1).isSome = true):=fun ⟨n,v⟩ hy => by
    rcases S.par n (List.of_mem_zip hy).1 with q | q
    · exact .inl q
    · exact .inr ⟨q,PySem.W.cellsFrom_some _ _ _ (.inl q)⟩
  refine codeAny_call_function hr.depth (KX _ _ lk) rfl S.co S.gen rfl (PySem.W.codeRec_of KX hcd) (hb _ _ _ _ ?_)
  refine wpAny_newFunctionEnv_cells S.kind hkind fun env he s1 x => ?_
  subst he
  refine ⟨lim.keeps x.toInCall.keep,codeAny_func ?_⟩
  obtain ⟨t,ht,hq⟩:=hbody A outer s H vs Q E (hr.deeper _) hsp
  have I:Inv (Zhc CX P w K mg base N qual scope f cdv A outer s H E) [] (start N vs) H s1:=ZfW S hr.hd e0 hl r x
  refine wpAny_mono (ht [] s1 (start N vs) H _ I hq) (fun fl s' hs => ?_) fun e s' hs => hs
  have fin:∀ {σ':St} {H':Hp} {v:V} {u:Value},Inv (Zhc CX P w K mg base N qual scope f cdv A outer s H E) [] σ' H' s' → RelV v u → Q v H' → CE outer P w H s Q u s' :=
    fun {σ' H' v u} J rv q => ⟨v,H',J.os,J.bare,J.base,J.hok,rv,q⟩
  cases fl with
  | ret u =>
    obtain ⟨v,σ',H',J,rv,q⟩:=hs
    exact fin J rv q
  | next =>
    obtain ⟨σ',H',J,q⟩:=hs
    exact fin (v:=V.non) (u:=Value.none) J rfl q
  | brk =>
    obtain ⟨_,_,_,q⟩:=hs
    exact False.elim q
  | cont =>
    obtain ⟨_,_,_,q⟩:=hs
    exact False.elim q
end L2
namespace L2
open PySem PySem.Spec PyProof.Rows
section
variable {X:Cx} {x:Str} {p pos:Pos} {e:Expr} {es:List Expr} {t:TA} {id T:String} {r:List V → Hp → VK → Prop}
def tCB (r:List V → Hp → VK → Prop) (t:TA):TE:=fun σ H Q => t σ H fun vs H1 => r vs H1 Q
theorem Zah (hc:CallR X (.builtin id) r) (hg:Gl X x) (hm:X.mg x = none) (hv:bootBuiltins x = some (.builtin id)) (ha:PA X (e :: es) t) (hn:x ≠ "__name__" := by decide) (hdb:(x == ("__debug__" : Str)) = false:=by decide)
    (he:starEach (e :: es) X.env = (false,eval e X.env) :: starEach es X.env:=by rfl) (hpl:(backTo pos (starEach es X.env)).any (·.1) = false:=by rfl):PE X (.Call (.Name x p) (e :: es) [] pos) (tCB r t):=by
  intro pins s σ H Q I h
  refine wpAny_Call_Name_kw (ZdL I hg hm hv ?_ hn hdb)
  exact PyProof.Rows.callWith_builtin1 (thn (ha pos pins s σ H _ I h) fun us s1 ⟨vs,H1,I1,r1,q1⟩ => hc pins s1 σ H1 vs us Q I1 r1 q1) he hpl
theorem ZaG (hc:CallR X (.type T) r) (hg:Gl X x) (hm:X.mg x = none) (hv:bootBuiltins x = some (.type T)) (ha:PA X (e :: es) t) (hn:x ≠ "__name__" := by decide) (hdb:(x == ("__debug__" : Str)) = false:=by decide)
    (he:starEach (e :: es) X.env = (false,eval e X.env) :: starEach es X.env:=by rfl) (hpl:(backTo pos (starEach es X.env)).any (·.1) = false:=by rfl):PE X (.Call (.Name x p) (e :: es) [] pos) (tCB r t):=by
  intro pins s σ H Q I h
  refine wpAny_Call_Name_kw (ZdL I hg hm hv ?_ hn hdb)
  exact PyProof.Rows.callWith_type1 (thn (ha pos pins s σ H _ I h) fun us s1 ⟨vs,H1,I1,r1,q1⟩ => hc pins s1 σ H1 vs us Q I1 r1 q1) he hpl
end
end L2
namespace HT
open PySem PyProof.Rows
section
open PySem.SeqAt
open PySem.AutoSeq1 (wpAny_loadPart')
open PySem.MeetsSeq PySem.MeetsSeq2 PySem.MeetsSeq3
end
section
variable {prog:Program} {w:World} {A:Around} {E:Value → Shared → Prop} {s:Shared}
def sIx (n d:Nat):Option Int → Nat
  | none => d
  | some v => if v < 0 then (v + (n:Int)).toNat else min v.toNat n
theorem sIx_none (n d:Nat):sIx n d none = d:=rfl
theorem sIx_nat (n d k:Nat):sIx n d (some (k:Int)) = min k n:=by
  show (if (k:Int) < 0 then ((k:Int) + (n:Int)).toNat else min (k:Int).toNat n) = min k n
  rw [if_neg (by omega),Int.toNat_natCast]
end
end HT
namespace L2
open PySem PySem.Spec PyProof.Rows
abbrev TO:=St → Hp → (Option Int → Hp → Prop) → Prop
def PO (X:Cx) (e:Option Expr) (t:TO):Prop :=
  ∀ (pins:List (Addr × Obj)) (s:Shared) (σ:St) (H:Hp) (Q:Option Int → Hp → Prop),Inv X pins σ H s → t σ H Q →
    wpAny (model X.prog X.w) X.A (evalPart e X.env) (fun u s' => ∃ o H',Inv X pins σ H' s' ∧ IsPart u o ∧ Q o H') X.xe s
def ZhB:TO:=fun _ H Q => Q none H
def Zi1 (t:TE):TO:=fun σ H Q => t σ H fun x H1 => ∃ i,x = .int i ∧ Q (some i) H1
section
variable {X:Cx} {e:Expr} {te:TE} {lo hi:Option Expr} {tl th:TO} {pos p2:Pos}
theorem Za7:PO X none ZhB:=by
  intro pins s σ H Q I h
  rw [evalPart_none]
  exact wpAny_pure ⟨none,H,I,.none,h⟩
theorem Za8 (h:PE X e te):PO X (some e) (Zi1 te):=by
  intro pins s σ H Q I hw
  rw [evalPart_some]
  refine thn (h pins s σ H _ I hw) fun u s1 ⟨x,H1,I1,r1,q1⟩ => ?_
  obtain ⟨i,rfl,q⟩:=q1
  obtain ⟨t,rfl⟩:=r1
  exact ⟨some i,H1,I1,.int i t,q⟩
def SlR (X:Cx) (r:V → Option Int → Option Int → Hp → VK → Prop):Prop :=
  ∀ (pins:List (Addr × Obj)) (s:Shared) (σ:St) (H:Hp) (x:V) (v vl vu:Value) (lo hi:Option Int) (sl:Addr) (Q:VK),Inv X pins σ H s → RelV x v → s.heap.IsSliceOf sl vl vu .none → IsPart vl lo → IsPart vu hi → r x lo hi H Q →
    ∃ T id,typeLookup (.type T) "__getitem__" = pure (some (.builtin id)) ∧ s.TypeIs v T ∧ wpAny (model X.prog X.w) X.A (getItem v (.ref sl)) (EP X pins σ Q) X.xe s
theorem SlR.or {r r':V → Option Int → Option Int → Hp → VK → Prop} (h:SlR X r) (h':SlR X r'):SlR X (fun x lo hi H Q => r x lo hi H Q ∨ r' x lo hi H Q):=by
  intro pins s σ H x v vl vu lo hi sl Q I rx hs pl pu q
  rcases q with q | q
  · exact h pins s σ H x v vl vu lo hi sl Q I rx hs pl pu q
  · exact h' pins s σ H x v vl vu lo hi sl Q I rx hs pl pu q
def tSl (r:V → Option Int → Option Int → Hp → VK → Prop) (te:TE) (tl th:TO):TE:=fun σ H Q => te σ H fun x H1 => tl σ H1 fun l H2 => th σ H2 fun u H3 => r x l u H3 Q
theorem ZaO {r:V → Option Int → Option Int → Hp → VK → Prop} (hr:SlR X r) (he:PE X e te) (hl:PO X lo tl) (hu:PO X hi th):PE X (.Subscript e (.Slice lo hi none p2) pos) (tSl r te tl th):=by
  intro pins s σ H Q I h
  refine Subscript_ (thn (he pins s σ H _ I h) fun v s1 ⟨x,H1,I1,r1,q1⟩ => ?_)
  refine wpAny_Slice (thn (hl pins s1 σ H1 _ I1 q1) fun vl s2 ⟨l,H2,I2,pl,q2⟩ => thn (hu pins s2 σ H2 _ I2 q2) fun vu s3 ⟨u,H3,I3,pu,q3⟩ => ?_)
  rw [evalPart_none]
  refine wpAny_pure ?_
  have I4:Inv X pins σ H3 { s3 with heap:=s3.heap.push { cls:=.type "slice", data:=.fields #[vl,vu,.none] } }:=I3.kept (t':=s3.toks) fun b ob q => Heap.get?_push_of_some _ q
  obtain ⟨T,id,hT,ht,hg⟩:=hr pins { s3 with heap:=s3.heap.push { cls:=.type "slice", data:=.fields #[vl,vu,.none] } } σ H3 x v vl vu l u s3.heap.objs.size Q I4 r1 (Heap.IsSliceOf.new ..) pl pu q3
  show wpAny (model X.prog X.w) X.A (subscriptTail e (.Slice lo hi none p2) v (.ref s3.heap.objs.size)) (EP X pins σ Q) X.xe { s3 with heap:=s3.heap.push { cls:=.type "slice", data:=.fields #[vl,vu,.none] } }
  exact tail_any (ops:=[.ref s3.heap.objs.size,v]) ht hT hg (by with_unfolding_all rfl)
def ZfC (xs:List V) (lo hi:Option Int):List V:=(xs.drop (HT.sIx xs.length 0 lo)).take (HT.sIx xs.length xs.length hi - HT.sIx xs.length 0 lo)
theorem Zes (xs:List V) (lo hi:Option Int):(ZfC xs lo hi).length ≤ xs.length:=by
  unfold ZfC
  rw [List.length_take,List.length_drop]
  omega
end
end L2
namespace L2
open PySem PySem.Spec PyProof.Rows
def ixN (n:Nat) (i:Int):Option Nat:=if 0 ≤ i then (if i < n then some i.toNat else none) else if -(n:Int) ≤ i then some (i + n).toNat else none
def atI {α:Type} (xs:List α) (i:Int):Option α:=(ixN xs.length i).bind fun j => xs[j]?
theorem ZfX {n:Nat} {i:Int} {j:Nat} (h:ixN n i = some j):seqIndex? i n = some j ∧ j < n ∧ -(n:Int) ≤ i ∧ i < n:=by
  unfold ixN at h
  by_cases h0:0 ≤ i
  · rw [if_pos h0] at h
    by_cases h1:i < n
    · rw [if_pos h1] at h
      have e:i.toNat = j:=Option.some.inj h
      exact ⟨by rw [seqIndex_of h0 h1,e],by omega,by omega,h1⟩
    · rw [if_neg h1] at h; cases h
  · rw [if_neg h0] at h
    by_cases h1:-(n:Int) ≤ i
    · rw [if_pos h1] at h
      have e:(i + n).toNat = j:=Option.some.inj h
      exact ⟨by rw [seqIndex_neg (by omega) h1,e],by omega,h1,by omega⟩
    · rw [if_neg h1] at h; cases h
theorem Zet {α:Type} {xs:List α} {i:Int} {v:α} (h:atI xs i = some v):∃ j,seqIndex? i xs.length = some j ∧ xs[j]? = some v ∧ j < xs.length ∧ -(xs.length:Int) ≤ i ∧ i < xs.length:=by
  unfold atI at h
  cases e:ixN xs.length i with
  | none => rw [e] at h; cases h
  | some j =>
    rw [e] at h
    obtain ⟨h1,h2,h3,h4⟩:=ZfX e
    exact ⟨j,h1,h,h2,h3,h4⟩
theorem ZaA {α:Type} {xs:List α} {j:Nat} {v:α} (h:xs[j]? = some v):atI xs (j:Int) = some v:=by
  have hj:j < xs.length:=(List.getElem?_eq_some_iff.mp h).1
  have e:ixN xs.length (j:Int) = some j:=by
    unfold ixN
    rw [if_pos (by omega),if_pos (by omega)]; simp
  unfold atI; rw [e]; exact h
def ZfY (b:Expr):Prop:=∀ o i,subscripted b false o i = operate [o,i] (getItem o i)
def IxR (X:Cx) (r:R2):Prop :=
  ∀ (value slice:Expr) (pins:List (Addr × Obj)) (s:Shared) (σ:St) (H:Hp) (x y:V) (v u:Value) (Q:VK),Inv X pins σ H s → RelV x v → RelV y u → r x y H Q →
    subscripted slice false v u = operate [v,u] (getItem v u) → wpAny (model X.prog X.w) X.A (subscriptTail value slice v u) (EP X pins σ Q) X.xe s
def MtR (X:Cx) (id:String) (r:V → List V → Hp → VK → Prop):Prop :=
  ∀ (pins:List (Addr × Obj)) (s:Shared) (σ:St) (H:Hp) (x:V) (xs:List V) (v:Value) (us:List Value) (Q:VK),Inv X pins σ H s → RelV x v → Vals xs us → r x xs H Q →
    wpAny (model X.prog X.w) X.A (call (.builtin id) (v :: us)) (EP X pins σ Q) X.xe s
section
variable {X:Cx} {a b:Expr} {ta tb:TE} {pos:Pos}
theorem IxR.or {r r':R2} (h:IxR X r) (h':IxR X r'):IxR X (fun x y H Q => r x y H Q ∨ r' x y H Q):=by
  intro value slice pins s σ H x y v u Q I rx ry q hs
  rcases q with q | q
  · exact h value slice pins s σ H x y v u Q I rx ry q hs
  · exact h' value slice pins s σ H x y v u Q I rx ry q hs
theorem MtR.or {id:String} {r r':V → List V → Hp → VK → Prop} (h:MtR X id r) (h':MtR X id r'):MtR X id (fun x xs H Q => r x xs H Q ∨ r' x xs H Q):=by
  intro pins s σ H x xs v us Q I rx rs q
  rcases q with q | q
  · exact h pins s σ H x xs v us Q I rx rs q
  · exact h' pins s σ H x xs v us Q I rx rs q
theorem ZaI {r:R2} (hr:IxR X r) (ha:PE X a ta) (hb:PE X b tb) (hs:ZfY b):PE X (.Subscript a b pos) (tOp r ta tb):=by
  intro pins s σ H Q I h
  exact Subscript_ (ZiY ha hb I h fun v u s2 x y H2 I2 rx ry q => hr a b pins s2 σ H2 x y v u Q I2 rx ry q (hs _ _))
def Zjf (K:PySem.W.Frag):R2:=fun x y H Q => ∃ p xs i v,x = .ref p ∧ y = .int i ∧ SqL K H p xs ∧ atI xs i = some v ∧ Q v H
def Zjz (K:PySem.W.Frag):R2:=fun x y H Q => ∃ p xs i v,x = .ref p ∧ y = .int i ∧ SqT K H p xs ∧ atI xs i = some v ∧ Q v H
def ZjA:R2:=fun x y H Q => ∃ z i c,x = .str z ∧ y = .int i ∧ z.length ≤ sizeLine ∧ atI z.cps.toList i = some c ∧ Q (.str ⟨#[c]⟩) H
theorem ZaB:IxR X (Zjf X.K):=by
  intro value slice pins s σ H x y v u Q I rx ry h hs
  obtain ⟨p,xs,i,z,rfl,rfl,hq,he,q⟩:=h
  cases rx
  obtain ⟨t,rfl⟩:=ry
  obtain ⟨its,r,pl,hz⟩:=I.list hq
  obtain ⟨j,h1,h2,h3,h4,h5⟩:=Zet he
  obtain ⟨w,ew,rw'⟩:=r.get h2
  have hl:=r.length
  have hn:=Zc8
  have fin:EP X pins σ Q w s:=⟨z,H,I,rw',q⟩
  by_cases h0:0 ≤ i
  · have hj:i.toNat = j:=by
      rw [seqIndex_of h0 h5] at h1
      exact Option.some.inj h1
    exact item_listR pl.isList h0 (by omega) (by rw [hj]; simpa using ew) fin hs
  · have hj:(i + (its.toArray.size:Int)).toNat = j:=by
      rw [seqIndex_neg (by omega) h4] at h1
      rw [List.size_toArray,← hl]
      exact Option.some.inj h1
    exact subscriptTail_builtinR (x:=w) pl.isList.typeIs slot_list_getitem.lookup
      (wpAny_getItem_list_neg (Q:=fun r s' => r = w ∧ EP X pins σ Q r s') pl.isList (by omega) (by rw [List.size_toArray] <;> omega) (by omega) (by rw [hj]; simpa using ew) ⟨rfl,fin⟩) hs
theorem Zci:IxR X (Zjz X.K):=by
  intro value slice pins s σ H x y v u Q I rx ry h hs
  obtain ⟨p,xs,i,z,rfl,rfl,hq,he,q⟩:=h
  cases rx
  obtain ⟨t,rfl⟩:=ry
  obtain ⟨its,r,pl,hz⟩:=I.tuple hq
  obtain ⟨j,h1,h2,h3,h4,h5⟩:=Zet he
  obtain ⟨w,ew,rw'⟩:=r.get h2
  have hl:=r.length
  have hn:=Zc8
  have fin:EP X pins σ Q w s:=⟨z,H,I,rw',q⟩
  exact subscriptTail_builtinR (x:=w) pl.typeIs slot_tuple_getitem.lookup
    (getItem_tuple (j:=j) (Q:=fun r s' => r = w ∧ EP X pins σ Q r s') pl (by omega) (by omega) (by rw [List.size_toArray,← hl]; exact h1) (by simpa using ew) ⟨rfl,fin⟩) hs
theorem ZfZ:IxR X ZjA:=by
  intro value slice pins s σ H x y v u Q I rx ry h hs
  obtain ⟨z,i,c,rfl,rfl,hz,he,q⟩:=h
  obtain ⟨t,rfl⟩:=rx
  obtain ⟨t',rfl⟩:=ry
  obtain ⟨j,h1,h2,h3,h4,h5⟩:=Zet he
  have hl:z.cps.toList.length = z.length:=by simp [Str.length]
  rw [hl] at h1 h4 h5
  have hn:=Zc8
  exact tail_any (typeIs_str s z t) slot_str_getitem.lookup (getItem_str (c:=c) (by
    have e1:decide (i < -(2 ^ 63:Int)) = false:=decide_eq_false (by omega)
    have e2:decide (i ≥ 2 ^ 63) = false:=decide_eq_false (by omega)
    rw [e1,e2,Bool.or_false]) (by rw [h1]; simpa using h2) ⟨.str ⟨#[c]⟩,H,I.tok _,⟨_,rfl⟩,q⟩) hs
theorem Zfl (its:List Value) (n j:Nat) (u:Value):Obj.mapSeq (·.setIfInBounds j u) { cls:=.type "list", data:=.seq its.toArray n } = { cls:=.type "list", data:=.seq (its.set j u).toArray n }:=by
  simp [Obj.mapSeq]
theorem Inv.lst {pins:List (Addr × Obj)} {σ:St} {H:Hp} {s:Shared} {p:Addr} {xs:List V} (I:Inv X pins σ H s) (h:H p = some (.lst xs)) :
    ∃ (its:List Value) (n:Nat),Vals xs its ∧ s.heap.get? p = some { cls:=.type "list", data:=.seq its.toArray n } ∧ xs.length ≤ sizeLine:=by
  obtain ⟨z,its,n,r,e⟩:=I.hok p _ h
  exact ⟨its,n,r,e,z⟩
theorem Inv.lstUpd {pins:List (Addr × Obj)} {σ:St} {H:Hp} {s:Shared} {p:Addr} {xs ys:List V} {its its':List Value} {n n':Nat} {f:Obj → Obj} (I:Inv X pins σ H s) (h:H p = some (.lst xs))
    (ho:s.heap.get? p = some { cls:=.type "list", data:=.seq its.toArray n }) (hf:f { cls:=.type "list", data:=.seq its.toArray n } = { cls:=.type "list", data:=.seq its'.toArray n' }) (r:Vals ys its') (hz:ys.length ≤ sizeLine) (t:Nat) :
    Inv X pins σ (upd H p (.lst ys)) { s with heap:=s.heap.update p f,toks:=t }:=by
  have e:(s.heap.update p f).get? p = some { cls:=.type "list", data:=.seq its'.toArray n' }:=by
    rw [Heap.get?_update_self f ho (by rw [hf] <;> rfl),hf]
  refine I.write (x:=p) (e:=p) (by rw [h]; trivial) (.inl rfl) (fun b u hb q => (Heap.get?_update_other _ _ (Ne.symm hb)).trans q) ⟨_,e⟩ ?_
  exact ⟨hz,its',n',r,e⟩
def Zi2:V → V → V → Hp → (Hp → Prop) → Prop:=fun o i v H Q => ∃ p xs k j,o = .ref p ∧ i = .int k ∧ H p = some (.lst xs) ∧ ixN xs.length k = some j ∧ Q (upd H p (.lst (xs.set j v)))
theorem ZgM:Zjb X Zi2:=by
  intro pins s σ H o i v ov iv u Q I ro ri rv h
  obtain ⟨p,xs,k,j,rfl,rfl,hp,hj,q⟩:=h
  cases ro
  obtain ⟨t,rfl⟩:=ri
  obtain ⟨its,n,r,ho,hz⟩:=I.lst hp
  obtain ⟨h1,h2,h3,h4⟩:=ZfX hj
  have hl:=r.length
  have hn:=Zc8
  have I':Inv X pins σ (upd H p (.lst (xs.set j v))) { s with heap:=s.heap.update p (Obj.mapSeq (·.setIfInBounds j u)) } :=
    I.lstUpd hp ho (Zfl its n j u) (r.set rv j) (by rw [List.length_set]; exact hz) s.toks
  by_cases h0:0 ≤ k
  · have hk:k.toNat = j:=by
      rw [seqIndex_of h0 h4] at h1
      exact Option.some.inj h1
    exact PySem.W.ki_setAt ho h0 (by omega) (by rw [List.size_toArray,← hl]; exact h4) (by rw [hk]; exact ⟨_,I',q⟩)
  · have hk:(k + (its.toArray.size:Int)).toNat = j:=by
      rw [seqIndex_neg (by omega) h3] at h1
      rw [List.size_toArray,← hl]
      exact Option.some.inj h1
    exact PySem.W.ki_setBack ho (by omega) (by rw [List.size_toArray,← hl]; exact h3) (by omega) (by rw [hk]; exact ⟨_,I',q⟩)
theorem ZdU (lo hi:Option Int) (n:Nat):(sliceBounds lo hi none n).1 = ((HT.sIx n 0 lo:Nat):Int) ∧ (sliceBounds lo hi none n).2.1 = ((HT.sIx n n hi:Nat):Int) ∧ (sliceBounds lo hi none n).2.2 = 1:=by
  refine ⟨?_,?_,rfl⟩
  · cases lo with
    | none => simp [sliceBounds,HT.sIx]
    | some i =>
      simp only [sliceBounds,HT.sIx,Option.getD_none,show (1:Int) > 0 by decide,if_true]
      by_cases h:i < 0
      · simp only [h,if_true] <;> omega
      · simp only [h,if_false] <;> omega
  · cases hi with
    | none => simp [sliceBounds,HT.sIx]
    | some i =>
      simp only [sliceBounds,HT.sIx,Option.getD_none,show (1:Int) > 0 by decide,if_true]
      by_cases h:i < 0
      · simp only [h,if_true] <;> omega
      · simp only [h,if_false] <;> omega
theorem Zdo (its:List Value) (lo hi:Option Int):slicePick its.toArray lo hi none = ((its.drop (HT.sIx its.length 0 lo)).take (HT.sIx its.length its.length hi - HT.sIx its.length 0 lo)).toArray:=by
  obtain ⟨h1,h2,h3⟩:=ZdU lo hi its.toArray.size
  unfold slicePick
  rw [h1,h2,h3]
  simp only [sliceRange_one,pick_run,List.size_toArray] <;> rfl
def ZjB (K:PySem.W.Frag):V → Option Int → Option Int → Hp → VK → Prop:=fun x lo hi H Q => ∃ a xs,x = .ref a ∧ SqL K H a xs ∧ ∀ p,H p = none → Q (.ref p) (upd H p (.lst (ZfC xs lo hi)))
theorem Zf0:SlR X (ZjB X.K):=by
  intro pins s σ H x v vl vu lo hi sl Q I rx hs pl pu h
  obtain ⟨a,xs,rfl,hx,q⟩:=h
  cases rx
  obtain ⟨its,r,ht,hz⟩:=I.list hx
  have hlen:=r.length
  refine ⟨"list", _,slot_list_getitem.lookup,ht.isList.typeIs,?_⟩
  refine wpAny_getItem_list_slice ht.isList hs pl pu .none (by simp) ?_ (by rw [List.size_toArray] <;> omega)
  rw [Zdo,← hlen]
  refine ⟨.ref s.heap.objs.size,_,I.laid (t':=s.toks) (o:=.lst (ZfC xs lo hi)) (fun b ob q => Heap.get?_push_of_some _ q) (Nat.le_refl _) ?_,rfl,q _ (I.hok.fresh (Nat.le_refl _))⟩
  exact ⟨Nat.le_trans (Zes xs lo hi) hz,_,0,(r.drop (HT.sIx xs.length 0 lo)).take (HT.sIx xs.length xs.length hi - HT.sIx xs.length 0 lo),Heap.get?_push_size _ rfl⟩
def Zdp:V → Bool
  | .non => true
  | .bl _ => true
  | .int _ => true
  | .str _ => true
  | _ => false
def eqV:V → V → Bool
  | .non,.non => true
  | .bl a,.bl b => a == b
  | .bl a,.int b => (if a then 1 else 0) == b
  | .int a,.bl b => a == (if b then 1 else 0)
  | .int a,.int b => a == b
  | .str a,.str b => a == b
  | _,_ => false
theorem Zio {A:Around} {s:Shared} {y x:V} {u v:Value} (ry:RelV y u) (rx:RelV x v) (fy:Zdp y = true) (fx:Zdp x = true):SeqAt.EqAt A s u v (eqV y x):=by
  cases y with
  | non =>
    cases ry
    cases x with
    | non => cases rx; exact SeqAt.EqAt.same _
    | bl b => cases rx; exact SeqAt.EqAt.none_bool b
    | int b => obtain ⟨t,rfl⟩:=rx; exact SeqAt.EqAt.none_int b t
    | str b => obtain ⟨t,rfl⟩:=rx; exact SeqAt.EqAt.none_str b t
    | _ => exact absurd (show false = true from fx) Bool.false_ne_true
  | bl a =>
    cases ry
    cases x with
    | non => cases rx; exact SeqAt.EqAt.bool_none a
    | bl b => cases rx; exact SeqAt.EqAt.bool_bool a b
    | int b => obtain ⟨t,rfl⟩:=rx; exact SeqAt.EqAt.bool_int a b t
    | str b => obtain ⟨t,rfl⟩:=rx; exact SeqAt.EqAt.bool_str a b t
    | _ => exact absurd (show false = true from fx) Bool.false_ne_true
  | int a =>
    obtain ⟨t',rfl⟩:=ry
    cases x with
    | non => cases rx; exact SeqAt.EqAt.int_none a t'
    | bl b => cases rx; exact SeqAt.EqAt.int_bool a t' b
    | int b => obtain ⟨t,rfl⟩:=rx; exact SeqAt.EqAt.int_int a t' b t
    | str b => obtain ⟨t,rfl⟩:=rx; exact SeqAt.EqAt.int_str a t' b t
    | _ => exact absurd (show false = true from fx) Bool.false_ne_true
  | str a =>
    obtain ⟨t',rfl⟩:=ry
    cases x with
    | non => cases rx; exact SeqAt.EqAt.str_none a t'
    | bl b => cases rx; exact SeqAt.EqAt.str_bool a t' b
    | int b => obtain ⟨t,rfl⟩:=rx; exact SeqAt.EqAt.str_int a t' b t
    | str b => obtain ⟨t,rfl⟩:=rx; exact SeqAt.EqAt.str_str a t' b t
    | _ => exact absurd (show false = true from fx) Bool.false_ne_true
  | _ => exact absurd (show false = true from fy) Bool.false_ne_true
def eqU (x:V) (u:Value):Bool:=match u with
  | .none => eqV .non x
  | .bool b => eqV (.bl b) x
  | .int i _ => eqV (.int i) x
  | .str z _ => eqV (.str z) x
  | _ => false
theorem Zhd {x y:V} {u:Value} (r:RelV y u) (f:Zdp y = true):eqU x u = eqV y x:=by
  cases y with
  | non => cases r; rfl
  | bl b => cases r; rfl
  | int i => obtain ⟨t,rfl⟩:=r; rfl
  | str z => obtain ⟨t,rfl⟩:=r; rfl
  | _ => exact absurd (show false = true from f) Bool.false_ne_true
theorem Zeu {x:V}:∀ {xs:List V} {us:List Value},Vals xs us → xs.all Zdp = true → us.any (eqU x) = xs.any fun y => eqV y x
  | _,_,.nil,_ => rfl
  | y :: xs,u :: us,.cons r t,f => by
    rw [List.all_cons,Bool.and_eq_true] at f
    rw [List.any_cons,List.any_cons,Zhd r f.1,Zeu t f.2]
theorem Zdq {A:Around} {s:Shared} {x:V} {v:Value} (rx:RelV x v) (fx:Zdp x = true):∀ {xs:List V} {us:List Value},Vals xs us → xs.all Zdp = true → ∀ u ∈ us,SeqAt.EqAt A s u v (eqU x u)
  | _,_,.nil,_ => fun u hu => by cases hu
  | y :: xs,u :: us,.cons r t,f => fun u' hu => by
    rw [List.all_cons,Bool.and_eq_true] at f
    rcases List.mem_cons.mp hu with rfl | hu
    · rw [Zhd r f.1]; exact Zio r rx f.1 fx
    · exact Zdq rx fx t f.2 u' hu
def inV (x:V) (xs:List V):Bool:=xs.any fun y => eqV y x
def rIn (K:PySem.W.Frag) (neg:Bool):R2:=fun x y H Q => ∃ p xs,y = .ref p ∧ (SqL K H p xs ∨ SqT K H p xs) ∧ Zdp x = true ∧ xs.all Zdp = true ∧ Q (.bl (if neg then !inV x xs else inV x xs)) H
theorem Zf1:OpR X (compareOp .In) (rIn X.K false):=by
  intro pins s σ H x y v u Q I rx ry h
  obtain ⟨p,xs,rfl,hq,fx,fs,q⟩:=h
  cases ry
  rcases hq with hq | hq
  · obtain ⟨its,r,pl,hz⟩:=I.list hq
    refine SeqAt.in_listAt (eqU x) pl.isList (fun w hw => Zdq rx fx r fs w (by simpa using hw)) ⟨.bl _,H,I,rfl,?_⟩
    rw [show its.toArray.any (eqU x) = its.any (eqU x) by simp,Zeu r fs]
    exact q
  · obtain ⟨its,r,pl,hz⟩:=I.tuple hq
    refine SeqAt.in_tupleAt (eqU x) pl (fun w hw => Zdq rx fx r fs w (by simpa using hw)) ⟨.bl _,H,I,rfl,?_⟩
    rw [show its.toArray.any (eqU x) = its.any (eqU x) by simp,Zeu r fs]
    exact q
theorem Zao:CallR X (.builtin "len") (fun xs H Q => ∃ p ys,xs = [.ref p] ∧ (SqL X.K H p ys ∨ SqT X.K H p ys) ∧ Q (.int ys.length) H):=by
  intro pins s σ H xs us Q I r h
  obtain ⟨p,ys,rfl,hq,q⟩:=h
  obtain ⟨u,rfl,rx⟩:=Zb4 r
  cases rx
  have hn:=Zc8
  rcases hq with hq | hq
  · obtain ⟨its,r',pl,hz⟩:=I.list hq
    have hlen:=r'.length
    exact Calls.call_len_list pl.isList (by simp only [List.size_toArray] <;> omega) ⟨.int ys.length,H,I.tok _,⟨s.toks + 1,by rw [List.size_toArray,hlen]⟩,q⟩
  · obtain ⟨its,r',pl,hz⟩:=I.tuple hq
    have hlen:=r'.length
    exact len_tuple pl (by simp only [List.size_toArray] <;> omega) ⟨.int ys.length,H,I.tok _,⟨s.toks + 1,by rw [List.size_toArray,hlen]⟩,q⟩
theorem ZaZ:CallR X (.builtin "len") (fun xs H Q => ∃ z,xs = [.str z] ∧ z.length ≤ sizeLine ∧ Q (.int z.length) H):=by
  intro pins s σ H xs us Q I r h
  obtain ⟨z,rfl,hz,q⟩:=h
  obtain ⟨u,rfl,t,rfl⟩:=Zb4 r
  have hn:=Zc8
  exact len_str (by omega) ⟨.int z.length,H,I.tok _,⟨_,rfl⟩,q⟩
theorem CallR.or {f:Value} {r r':List V → Hp → VK → Prop} (h:CallR X f r) (h':CallR X f r'):CallR X f (fun xs H Q => r xs H Q ∨ r' xs H Q):=by
  intro pins s σ H xs us Q I rs q
  rcases q with q | q
  · exact h pins s σ H xs us Q I rs q
  · exact h' pins s σ H xs us Q I rs q
theorem ZdV:CallR X (.type "list") (fun xs H Q => ∃ p ys,xs = [.ref p] ∧ (SqL X.K H p ys ∨ SqT X.K H p ys) ∧ ∀ l,H l = none → Q (.ref l) (upd H l (.lst ys))):=by
  intro pins s σ H xs us Q I r h
  obtain ⟨p,ys,rfl,hq,q⟩:=h
  obtain ⟨u,rfl,rx⟩:=Zb4 r
  cases rx
  have fin:∀ (its:List Value),Vals ys its → ys.length ≤ sizeLine → ∀ (h':Heap) (c':Nat),(∀ b o',s.heap.get? b = some o' → h'.get? b = some o') →
      h'.get? s.heap.objs.size = some { cls:=.type "list", dict:=none,data:=.seq its.toArray c',slots:=#[] } → EP X pins σ Q (.ref s.heap.objs.size) { s with heap:=h' }:=fun its r' hz h' c' kp e =>
    ⟨.ref s.heap.objs.size,_,I.laid (t':=s.toks) kp (Nat.le_refl _) (show ObjOk X.prog X.w _ h' _ (.lst ys) from ⟨hz,its,c',r',e⟩),rfl,q _ (I.hok.fresh (Nat.le_refl _))⟩
  rcases hq with hq | hq
  · obtain ⟨its,r',pl,hz⟩:=I.list hq
    have hlen:=r'.length
    obtain ⟨o,ho,hc,n,hd⟩:=pl.isList
    exact call_list_seq p (.inl rfl) ho hc hd (fun h' c' kp e => fin its r' hz h' c' kp e) (by simp only [List.size_toArray] <;> omega)
  · obtain ⟨its,r',pl,hz⟩:=I.tuple hq
    have hlen:=r'.length
    obtain ⟨o,ho,hc,n,hd⟩:=pl
    exact call_list_seq p (.inr rfl) ho hc hd (fun h' c' kp e => fin its r' hz h' c' kp e) (by simp only [List.size_toArray] <;> omega)
def tyV (K:PySem.W.Frag) (T:String) (x:V) (H:Hp):Prop:=match x with
  | .str _ => T = "str"
  | .int _ => T = "int"
  | .ref p => (T = "list" ∧ ∃ xs,SqL K H p xs) ∨ (T = "tuple" ∧ ∃ o,K.lookup p = some o ∧ o.cls = .type "tuple" ∧ o.dict = none) ∨
      (T = "dict" ∧ ((∃ kvs,H p = some (.dK kvs)) ∨ ∃ kvs,H p = some (.dT kvs))) ∨ (T = "set" ∧ ∃ S n,H p = some (.set S n))
  | _ => False
theorem Zip {pins:List (Addr × Obj)} {σ:St} {H:Hp} {s:Shared} {T:String} {x:V} {v:Value} (I:Inv X pins σ H s) (r:RelV x v) (ty:tyV X.K T x H) :
    s.TypeIs v T ∧ ∀ a,v = .ref a → ∃ ob,s.heap.get? a = some ob ∧ ob.dict = none:=by
  cases x with
  | str z =>
    obtain ⟨t,rfl⟩:=r
    cases (show T = "str" from ty)
    exact ⟨typeIs_str s z t,fun _ e => nomatch e⟩
  | int i =>
    obtain ⟨t,rfl⟩:=r
    cases (show T = "int" from ty)
    exact ⟨typeIs_int s i t,fun _ e => nomatch e⟩
  | ref p =>
    cases r
    rcases ty with ⟨rfl,xs,hq⟩ | ⟨rfl,o,hk,hc,hd⟩ | ⟨rfl,hk⟩ | ⟨rfl,S,n,hk⟩
    · obtain ⟨its,_,pl,_⟩:=I.list hq
      refine ⟨pl.isList.typeIs,fun a e => ?_⟩
      cases e
      obtain ⟨o,n,e,c,hd,_⟩:=pl
      exact ⟨o,e,hd⟩
    · refine ⟨⟨o,I.kIn p o hk,hc⟩,fun a e => ?_⟩
      cases e
      exact ⟨o,I.kIn _ o hk,hd⟩
    · have z:∃ o,s.heap.get? p = some o ∧ o.ExactDict:=by
        rcases hk with ⟨kvs,hk⟩ | ⟨kvs,hk⟩
        · obtain ⟨_,_,_,_,o,_,_,e,ex,_⟩:=I.hok p _ hk
          exact ⟨o,e,ex⟩
        · obtain ⟨_,_,_,_,o,_,_,e,ex,_⟩:=I.hok p _ hk
          exact ⟨o,e,ex⟩
      obtain ⟨o,e,ex⟩:=z
      refine ⟨⟨o,e,ex.1⟩,fun a e2 => ?_⟩
      cases e2
      exact ⟨o,e,ex.2.1⟩
    · obtain ⟨o,_,_,_,e,ex,_⟩:=I.hok p _ hk
      refine ⟨⟨o,e,ex.1⟩,fun a e2 => ?_⟩
      cases e2
      exact ⟨o,e,ex.2.1⟩
  | _ => exact False.elim ty
def tBM (K:PySem.W.Frag) (T:String) (r:V → List V → Hp → VK → Prop) (to:TE) (t:TA):TE:=fun σ H Q => to σ H fun x H1 => tyV K T x H1 ∧ t σ H1 fun xs H2 => r x xs H2 Q
variable {o e:Expr} {es:List Expr} {to:TE} {t:TA} {name:Str} {apos cpos:Pos} {T id:String} {r:V → List V → Hp → VK → Prop}
theorem ZbT (pa:PlainAttrs T) (slot:Slot T name id) (hty:typeOf (.builtin id) = pure (.type "method_descriptor")) (hm:MtR X id r) (ho:PE X o to) (ha:PA X (e :: es) t)
    (hbase:attributeBase o name X.env (eval o X.env) = eval o X.env:=by rfl)
    (hfew:((backTo cpos (starEach (e :: es) X.env)).all (fun x => !x.1) && (backToKw cpos (keywordEach [] X.env)).all (fun x => x.1.isSome)
      && decide ((e :: es).length + ([]:List Keyword).length + (if ([]:List Keyword).isEmpty then 0 else 1) < 30)) = true:=by rfl)
    (hline:(apos.endLine == cpos.line) = true:=by rfl) (hs:starEach (e :: es) X.env = (false,eval e X.env) :: starEach es X.env:=by rfl) (hplain:(backTo cpos (starEach es X.env)).any (·.1) = false:=by rfl) :
    PE X (.Call (.Attribute o name apos) (e :: es) [] cpos) (tBM X.K T r to t):=by
  intro pins s σ H Q I h
  refine wpAny_Call_method_late hbase hfew hline rfl (thn (ho pins s σ H _ I h) fun v s1 ⟨x,H1,I1,r1,ty,q1⟩ => ?_)
  obtain ⟨h1,h2⟩:=Zip I1 r1 ty
  refine ⟨T,id,pa,slot,hty,h1,h2,?_⟩
  have hA:=ha cpos pins s1 σ H1 _ I1 q1
  rw [hs] at hA ⊢
  refine Calls.callWith_builtin (by show (false || (backTo cpos (starEach es X.env)).any (·.1)) = false; rw [hplain] <;> rfl) (Calls.evalArgs_plain ?_)
  exact thn hA fun us s2 ⟨vs,H2,I2,r2,q2⟩ => hm pins s2 σ H2 x vs v us Q I2 r1 r2 q2
/- xs.append(e),list.index on a module's tuple .. are MtR facts of 06m -/
end
end L2
namespace L2
open PySem PySem.Spec PyProof.Rows
def MtM (X:Cx) (id:String) (r:V → List V → Hp → VK → Prop):Prop :=
  ∀ (pins:List (Addr × Obj)) (s:Shared) (σ:St) (H:Hp) (x:V) (xs:List V) (v:Value) (us:List Value) (Q:VK),Inv X pins σ H s → RelV x v → Vals xs us → r x xs H Q →
    wpAny (model X.prog X.w) X.A (call (.builtin id) (v :: us)) (EP X pins σ Q) X.xe s
theorem Vals.one:∀ {x:V} {us:List Value},Vals [x] us → ∃ u,us = [u] ∧ RelV x u
  | _,_,.cons r .nil => ⟨_,rfl,r⟩
theorem Vals.two:∀ {x y:V} {us:List Value},Vals [x,y] us → ∃ u v,us = [u,v] ∧ RelV x u ∧ RelV y v
  | _,_,_,.cons r (.cons q .nil) => ⟨_,_,rfl,r,q⟩
theorem Vals.zero:∀ {us:List Value},Vals [] us → us = []
  | _,.nil => rfl
theorem Vals.reverse {xs:List V} {us:List Value} (h:Vals xs us):Vals xs.reverse us.reverse:=by
  induction h with
  | nil => exact .nil
  | cons r t ih => rw [List.reverse_cons,List.reverse_cons]; exact Vals.append ih (.cons r .nil)
section
variable {X:Cx} {pins:List (Addr × Obj)} {σ:St} {H:Hp} {s:Shared} {l b:Addr} {xs ys zs:List V}
theorem Inv.lset {its its':List Value} {n:Nat} {f:Array Value → Array Value} {t':Nat} (I:Inv X pins σ H s) (hH:H l = some (.lst xs))
    (e:s.heap.get? l = some { cls:=.type "list", data:=.seq its.toArray n }) (hf:f its.toArray = its'.toArray) (hv:Vals ys its') (hz:ys.length ≤ sizeLine) :
    Inv X pins σ (upd H l (.lst ys)) { s with heap:=s.heap.update l (Obj.mapSeq f),toks:=t' }:=by
  have q:=PySem.IsL.update e f
  rw [hf] at q
  refine I.write (x:=l) (e:=l) (by rw [hH]; exact trivial) (.inl rfl) (fun b' u hb hu => (Heap.get?_update_other s.heap (Obj.mapSeq f) (Ne.symm hb)).trans hu) ⟨_,q⟩ ?_
  exact ⟨hz,its',_,hv,q⟩
theorem Inv.lnew {its:List Value} {t':Nat} (I:Inv X pins σ H s) (hv:Vals ys its) (hz:ys.length ≤ sizeLine) :
    Inv X pins σ (upd H s.heap.objs.size (.lst ys)) { s with heap:=s.heap.push { cls:=.type "list", data:=.seq its.toArray },toks:=t' } :=
  I.laid (fun _ _ q => Heap.get?_push_of_some _ q) (Nat.le_refl _) ⟨hz,its,0,hv,Heap.get?_push_size _ rfl⟩
theorem Inv.fresh (I:Inv X pins σ H s):H s.heap.objs.size = none:=I.hok.fresh (Nat.le_refl _)
theorem Inv.lstM (I:Inv X pins σ H s) (hH:H l = some (.lst xs)):xs.length ≤ sizeLine ∧ ∃ (its:List Value) (n:Nat),Vals xs its ∧ xs.length = its.length ∧ s.heap.get? l = some { cls:=.type "list", data:=.seq its.toArray n }:=by
  obtain ⟨z,its,n,r,e⟩:=I.hok l _ hH
  exact ⟨z,its,n,r,r.length,e⟩
end
section
variable {X:Cx}
def ZhC:V → List V → Hp → VK → Prop:=fun x vs H Q => ∃ l xs y,x = .ref l ∧ vs = [y] ∧ H l = some (.lst xs) ∧ xs.length < sizeLine ∧ Q .non (upd H l (.lst (xs ++ [y])))
theorem ZcG:MtM X "list.append" ZhC:=by
  intro pins s σ H x vs v us Q I rx rv h
  obtain ⟨l,xs,y,rfl,rfl,hH,hz,q⟩:=h
  cases rx
  obtain ⟨u,rfl,ru⟩:=rv.one
  obtain ⟨z,its,n,r,hl,e⟩:=I.lstM hH
  refine call_meets F.slot_list_append ⟨_,e,rfl⟩ F.entry_list_append (F.args_list_append_2 _ _) (PySem.list_append l its.toArray n u (by rw [List.size_toArray]; omega)) ⟨e,?_⟩
  refine ⟨.non,_,I.lset (its':=its ++ [u]) hH e (by simp) (r.append (.cons ru .nil)) ?_,rfl,q⟩
  rw [List.length_append,List.length_singleton]
  omega
def ZjC:R2:=fun x y H Q => ∃ l b xs zs,x = .ref l ∧ y = .ref b ∧ H l = some (.lst xs) ∧ H b = some (.lst zs) ∧ xs.length + zs.length ≤ sizeLine ∧ ∀ p,H p = none → Q (.ref p) (upd H p (.lst (xs ++ zs)))
theorem Ziq:OpR X (binaryOp .Add) ZjC:=by
  intro pins s σ H x y v u Q I rx ry h
  obtain ⟨l,b,xs,zs,rfl,rfl,hH,hB,hz,q⟩:=h
  cases rx
  cases ry
  obtain ⟨z,its,n,r,hl,e⟩:=I.lstM hH
  obtain ⟨z2,its2,n2,r2,hl2,e2⟩:=I.lstM hB
  refine PySem.P.add_list e e2 ?_ (by rw [List.size_toArray,List.size_toArray]; omega)
  have ea:its.toArray ++ its2.toArray = (its ++ its2).toArray:=by simp
  rw [ea]
  exact ⟨.ref _,_,I.lnew (t':=s.toks) (r.append r2) (by rw [List.length_append]; omega),rfl,q _ I.fresh⟩
end
section
variable {prog:Program} {w:World} {A:Around} {E:Value → Shared → Prop} {s:Shared}
end
section
variable {X:Cx}
end
end L2
namespace Att
open PySem PySem.W PySem.Calls PyProof.Rows
theorem ZcH {P:Params} {h:Heap}:∀ (ns:List Int) (vs:List Value),WellAll P h vs (ns.map WData.int) → IntsAre vs ns:=by
  intro ns
  induction ns with
  | nil =>
    intro vs w
    rw [List.map_nil] at w
    cases w
    exact .nil
  | cons n ns ih =>
    intro vs w
    rw [List.map_cons] at w
    cases w with
    | cons a b =>
      cases a
      exact .cons _ _ (ih _ b)
theorem script_of {l:OpenLaw} {n:Nat} (hn:l.most = some n) {P:Params} {h:Heap} {args:List WData} {vals:List Value}
    (hpre:l.row.toRowW.claim.pre args = true) (hwl:WellAll P h vals args) :
    ∃ a vs ns,vals = [Value.ref a] ∧ args = [WData.list (ns.map WData.int)] ∧ h.get? a = some { cls:=.type "list", data:=.seq vs.toArray } ∧ IntsAre vs ns ∧ ns.length ≤ n:=by
  have hsh:WShape.hasAll [] args [.list .int] = true:=(pre_splitW hpre).1
  have hc:l.pre.holds [] { args:=args } = true:=(pre_splitW hpre).2
  obtain ⟨d,r,rfl,h1,h2⟩:=hasAllW_cons hsh
  obtain rfl:=hasAllW_nil h2
  obtain ⟨xs,rfl,h3⟩:=hasW_list h1
  obtain ⟨ns,rfl⟩:=items_int h3
  have hlen:ns.length ≤ n:=by
    unfold OpenLaw.pre at hc
    have h4:(WTm.not (.lt (.lit (.int (n:Int))) (.len (.arg 0)))).holds [] { args:=[.list (ns.map .int)] } = true:=by
      have h4:=(holds_andW hc).1
      rw [hn] at h4
      exact h4
    have h5:=condW_of h4 (w_not (w_lt w_lit (w_len_list (w_arg rfl))))
    rw [List.length_map] at h5
    refine Nat.le_of_not_lt fun q => ?_
    have q':(n:Int) < ((ns.length:Nat):Int):=by omega
    first
      | (rw [decide_eq_true q'] at h5; exact absurd h5 (by decide))
      | (simp at h5; omega)
  cases hwl with
  | cons w1 w2 =>
    cases w2
    cases w1 with
    | list ho hall => exact ⟨_,_,ns,rfl,rfl,ho,ZcH ns _ hall,hlen⟩
theorem post_true (l:OpenLaw) (args:List WData):l.row.toRowW.claim.post args (.bool true) args = true :=
  postW_of (r:=l.row.toRowW) (X:=(true == true))
    (show WShape.has [] (.bool true) .bool = true by first | rfl | decide | simp [WShape.has,WShape.arms,WShape.armsAll])
    (show (WTm.eq .res (.lit (.bool true))).value [] { args:=args,res:=some (.bool true),after:=args } = some (.bool (true == true)) from w_eq_bool (w_res rfl) w_lit) rfl
theorem attach_call {l:OpenLaw} {n:Nat} {q:Program} {loose:List Str} {XP:(Str → Option Value) → Heap → Prop} {YP:World → Heap → Prop} {d:DefRec}
    (hn:l.most = some n) (hdf:d.params.defaults = [])
    (call:∀ (w:World) (s₀ s₁:Shared) (mg mb:Str → Option Value) (fa:Addr) (o:Obj) (pm cd doc:Value) (a:Addr) (vs:List Value) (ns:List Int),
      Ground q loose [] XP w s₀ mg mb s₁.heap → YP w s₁.heap →
      s₁.heap.get? fa = some o → o.data = .func (docDef d.name d.params d.body d.scope pm cd doc) → s₁.heap.CodeRec cd d.name → mg d.name = some (.ref fa) →
      s₁.heap.get? a = some { cls:=.type "list", data:=.seq vs.toArray } → IntsAre vs ns → ns.length ≤ n → s₁.gens = #[] →
      codeAny (model l.prog w) callerA (.call (.ref fa) ⟨[.ref a],[]⟩) (fun r s' => r = .ok (.ret (.bool true)) ∧ OldK s₁.heap s'.heap ∧ s'.os = s₁.os ∧ AllBare s'.gens) s₁) :
    WalkO q loose XP YP l.row.toRowW d [] (fun f vs => PySem.call f vs):=by
  intro w s₀ s₁ mg mb G Y fa o pm cd doc dV kV ho hd hcd hD hmg hg args vals as hpre hlay hrd hwl hlo
  obtain rfl:dV = .none:=Dflts.none hD hdf
  obtain rfl:kV = .none:=Dflts.noKw hD
  obtain ⟨a,vs,ns,rfl,rfl,hobj,hints,hlen⟩:=script_of hn hpre hwl
  refine enter_call (codeAny_mono (call w s₀ s₁ mg mb fa o pm cd doc a vs ns G Y ho (fd_plain hd) hcd hmg hobj hints hlen hg) fun r s' hq => ?_)
  obtain ⟨rfl,h2,h3,h4⟩:=hq
  exact ⟨.inl ⟨.bool true,.bool true,[],rfl,fun _ => rfl,.bool true,post_true l _,fun _ => ⟨List.Pairwise.nil,fun _ hm => (nomatch hm)⟩⟩,h2,h3,h4⟩
section
variable {prog:Program} {w:World} {A:Around} {E:Value → Shared → Prop} {s:Shared} {K:Frag}
def Zjg (h:Heap) (L d:Addr):List (Addr × Obj):=(List.range h.objs.size).filterMap fun a => if a = L ∨ a = d then none else (h.get? a).map fun o => (a,o)
end
end Att
namespace L2
open PySem PySem.Spec PyProof.Rows
theorem ZdW:∀ {vs:List Value} {ns:List Int},IntsAre vs ns → Vals (ns.map V.int) vs
  | _,_,.nil => .nil
  | _,_,.cons n t h => .cons ⟨t,rfl⟩ (ZdW h)
def ZiP (H:Hp):Prop:=∀ b,H b = none ∨ ∃ o xs,H b = some (.frz o (.lst xs))
theorem ZeT {P:Program} {w:World} {K:PySem.W.Frag} {mg mb:Str → Option Value} {CX:CXT} {k:Nat} {fa a:Addr} {fd:FuncData} {x:Str} {sp:Sp} {s₁:Shared} {vs:List Value} {ns:List Int}
    (KX:K.In s₁.heap) (hns:s₁.heap.Ns mainGlobals mg) (hb:s₁.heap.Ns builtinsNs mb) (hbb:∀ x:Str,x ≠ "__name__" → mb x = bootBuiltins x) (hlim:s₁.heap.NoLimit) (hg:s₁.gens = #[])
    (ha:s₁.heap.get? a = some { cls:=.type "list", data:=.seq vs.toArray }) (hi:IntsAre vs ns) (hl:ns.length ≤ sizeLine) (hr:Room k callerA)
    (F:∀ base:Heap,K.In base → base.Ns mainGlobals mg → FnOk P w K mg base CX k fa fd [x] sp) (hbind:∀ (s:Shared) (u:Value),BindsTo s fd ⟨[u],[]⟩ [(x,u)])
    (hsp:∀ H:Hp,ZiP H → SqL K H a (ns.map V.int) → sp [.ref a] H (fun v _ => v = .bl true) fun _ _ _ => False)
    (hCX:∀ H e s',CX [] H s₁ (fun _ _ _ => False) e s' → False) :
    codeAny (model P w) callerA (.call (.ref fa) ⟨[.ref a],[]⟩) (fun r s' => r = .ok (.ret (.bool true)) ∧ OldK s₁.heap s'.heap ∧ s'.os = s₁.os ∧ AllBare s'.gens) s₁:=by
  have rv:=ZdW hi
  have lenV:=hi.length
  have core:∀ H:Hp,ZiP H → SqL K H a (ns.map V.int) → HOk P w H s₁.heap → (∀ b,H b ≠ none → b = a) → (H a ≠ none → K.lookup a = none) →
      codeAny (model P w) callerA (.call (.ref fa) ⟨[.ref a],[]⟩) (fun r s' => r = .ok (.ret (.bool true)) ∧ OldK s₁.heap s'.heap ∧ s'.os = s₁.os ∧ AllBare s'.gens) s₁:=by
    intro H hO hS hok hA hK
    have base_of:∀ {b:Addr} {o:Obj},s₁.heap.get? b = some o → H b = none → (ZgC s₁.heap H).get? b = some o:=fun e n => ZgD e n
    have noA:∀ {b:Addr} {o:Obj} {es:Array DictEntry} {ep:Nat},s₁.heap.get? b = some o → o.data = .dict es ep → H b = none:=fun {b o es ep} e d => by
      cases q:H b with
      | none => rfl
      | some u =>
        have e':b = a:=hA b (by rw [q]; simp)
        subst e'
        rw [ha] at e; cases e
        have d':Data.seq vs.toArray _ = Data.dict es ep:=d
        cases d'
    have nsK:∀ {b:Addr} {m:Str → Option Value},s₁.heap.Ns b m → (ZgC s₁.heap H).Ns b m:=fun {b m} ⟨o,es,ep,e,d,r⟩ => ⟨o,es,ep,base_of e (noA e d),d,r⟩
    have hKb:K.In (ZgC s₁.heap H):=fun b o e => base_of (KX b o e) (by
      cases q:H b with
      | none => rfl
      | some u =>
        have e':b = a:=hA b (by rw [q]; simp)
        subst e'
        rw [hK (by rw [q]; simp)] at e; cases e)
    have hM:Mod K mg (ZgC s₁.heap H):=⟨hKb,nsK hns,⟨mb,nsK hb,hbb⟩,let ⟨mc,h1,h2⟩:=hlim; ⟨mc,nsK h1,h2⟩⟩
    have e0:Env0 P w K mg (ZgC s₁.heap H) callerA [] s₁ H:=⟨rfl,hM,fun b o e => Zhq e,Nat.le_of_eq (ZfE _ _),trivial,fun b hb => absurd (show b ∈ ([]:List Addr) from hb) (by simp),hok,.of_eq hg⟩
    refine codeAny_mono ((F _ hKb (nsK hns)).run callerA [] s₁ H ⟨[.ref a],[]⟩ [.ref a] [.ref a] _ _ hr e0 (hbind s₁ (.ref a)) (.cons rfl .nil) (hsp H hO hS)) fun r s' h => ?_
    cases r with
    | error e => exact (hCX H e s' h).elim
    | ok fl =>
      cases fl with
      | next => exact False.elim h
      | brk => exact False.elim h
      | cont => exact False.elim h
      | ret u =>
        obtain ⟨v,H',os,bare,un,hok',r',q⟩:=h
        have q':v = .bl true:=q
        subst q'
        obtain rfl:u = Value.bool true:=r'
        refine ⟨rfl,OldK.of_keep fun b o e => ?_,os,bare⟩
        cases q:H b with
        | none => exact un.keep b o e q (by intro z; exact absurd (show b ∈ ([]:List Addr) from z) (by simp)) (by simp)
        | some u =>
          rcases hO b with z | ⟨ob,xs,z⟩
          · rw [q] at z; cases z
          · have z2:=un.frzs b ob _ z
            obtain ⟨e1,_⟩:=hok b _ z
            obtain ⟨e2,_⟩:=hok' b _ z2
            rw [e] at e1; cases e1
            exact e2
  cases hk:K.lookup a with
  | some o =>
    have e:=KX a o hk
    rw [ha] at e
    cases e
    refine core (fun _ => none) (fun _ => .inl rfl) (.inr ⟨_,vs.toArray,_,hk,rfl,rfl,rfl,by rw [List.size_toArray,lenV]; exact hl,by simpa using rv⟩) (fun b u z => by have z':(none:Option HO) = some u:=z; cases z') (fun b z => absurd rfl z) fun z => absurd rfl z
  | none =>
    refine core (fun b => if b = a then some (.frz { cls:=.type "list", data:=.seq vs.toArray } (.lst (ns.map V.int))) else none) (fun b => ?_) (.inl (.inr ⟨{ cls:=.type "list", data:=.seq vs.toArray },if_pos rfl⟩)) (fun b u z => ?_) (fun b z => ?_) fun _ => hk
    · by_cases hb:b = a
      · exact .inr ⟨_,_,if_pos hb⟩
      · exact .inl (if_neg hb)
    · by_cases hb:b = a
      · have z':=(if_pos hb).symm.trans z
        cases z'
        subst hb
        exact ⟨ha,by rw [List.length_map]; exact hl,vs,_,rv,ha⟩
      · have z':=(if_neg hb).symm.trans z
        cases z'
    · by_cases hb:b = a
      · exact hb
      · exact absurd (if_neg hb) z
end L2
namespace L2
open PySem PySem.Spec PyProof.Rows
abbrev KOf {K:PySem.W.Frag} {h:Heap} (_:K.In h):PySem.W.Frag:=K
theorem walk_of {l:PySem.W.OpenLaw} {n k:Nat} {q:Program} {loose:List Str} {XP:(Str → Option Value) → Heap → Prop} {YP:World → Heap → Prop} {d:DefRec} {K:Params → PySem.W.Frag} {CX:World → CXT} {sp:World → Sp} {x:Str}
    (hn:l.most = some n) (hn2:n ≤ sizeLine) (hdf:d.params.defaults = []) (hr:Room k callerA)
    (hY:∀ (w:World) (h:Heap),YP w h → (K w.params).In h)
    (F:∀ (w:World) (mg:Str → Option Value) (fa:Addr) (h:Heap),(K w.params).In h → h.Ns mainGlobals mg → mg d.name = some (.ref fa) →
      ∃ fd:FuncData,(∀ (s:Shared) (u:Value),BindsTo s fd ⟨[u],[]⟩ [(x,u)]) ∧
        ∀ base:Heap,(K w.params).In base → base.Ns mainGlobals mg → FnOk l.prog w (K w.params) mg base (CX w) k fa fd [x] (sp w))
    (hsp:∀ (w:World) (H:Hp) (a:Addr) (ns:List Int),ns.length ≤ n → ZiP H → SqL (K w.params) H a (ns.map V.int) → sp w [.ref a] H (fun v _ => v = .bl true) fun _ _ _ => False)
    (hCX:∀ (w:World) (H:Hp) (s:Shared) (e:Value) (s':Shared),CX w [] H s (fun _ _ _ => False) e s' → False) :
    PySem.W.WalkO q loose XP YP l.row.toRowW d [] (fun f vs => PySem.call f vs):=by
  refine Att.attach_call hn hdf fun w s₀ s₁ mg mb fa o pm cd doc a vs ns G Y ho hd hcd hmg hobj hints hlen hg => ?_
  have KX:=hY w _ Y
  obtain ⟨fd,hb,hF⟩:=F w mg fa _ KX G.T.g hmg
  exact ZeT KX G.T.g G.T.b G.T.builtins G.T.nolimit hg hobj hints (Nat.le_trans hlen hn2) hr hF hb (fun H hO hS => hsp w H a ns hlen hO hS) fun H e s' => hCX w H s₁ e s'
end L2
/- THE LAST THEOREM (shape; LID,My.* are yours):
   My.Adr: a structure of the addresses that your layer names (classes,functions); My.Txt K t: a structure (Prop) of the equations over K;
   My.txt_mk:{K} {implicit addresses ..} (e1:nsIn K mainGlobals "law" = some (some (.ref f))) (e2:K.lookup f = some ⟨oc,od,.func (fnOf "law" "law" params body scope dV kV doc pm an cdv ct),sl⟩) (e3:codeIn K cdv "law" = true) ..:∃ t,My.Txt K t
set_option maxRecDepth 100000 in
set_option maxHeartbeats 0 in
theorem PySem.Challenge.cw_LID_holds : PySem.Challenge.rw_LID.Holds := by
  w_on; o_law; k_head; (case hw => w_witness2)
  k_fill
  refine L2.walk_of (l:=PySem.Challenge.rw_LID) (n:=63) (k:=40) (x := "script") (CX:=fun w => ..) (sp:=fun _ => My.sp_law) rfl (by decide) rfl ⟨rfl,by decide,by decide⟩ (fun w h Y => PySem.W.kIn_of Y) ?F ?S ?C
  case F =>
    intro w mg fa h KX G hmg
    have T:∃ t,My.Txt (L2.KOf KX) t:=by
      dsimp only [L2.KOf]                          -- K must stand as «<heap const> w.params» for k_is
      refine' My.txt_mk ?e1 ?e2 ?e3 ..
      (case e1 => PySem.W.k_is)                    -- in the order: a name -> its address -> its object -> its parts
      (case e2 => PySem.W.k_is)
      ..
    obtain ⟨t,T⟩:=T
    have e0:=hmg.symm.trans (PySem.W.mg_of KX G T.law)
    cases e0                                       -- fa is the law's own address
    exact ⟨_,fun s u => .of_eq rfl,fun base kb nb => My.law_fn T kb nb⟩     -- if «.of_eq rfl» comes too early: refine' ⟨_,?b,fun base kb nb => My.law_fn T kb nb⟩; exact fun s u => .of_eq rfl
  case S => exact fun w H a ns hl hO hS => ..
  case C => exact ..
(the tactic k_is has no namespace: write k_is) -/
namespace L2
open PySem PySem.Spec PyProof.Rows
def Zf2 (s:Stmt) (j:Nat):Stmt:=match s with
  | .ClassDef _ _ _ body _ _ _ _ _ _ _ => body.getD j (.Pass ⟨0,0,0,0⟩)
  | _ => .Pass ⟨0,0,0,0⟩
def Zbm (s:Stmt):Arguments:=match s with
  | .FunctionDef _ a _ _ _ _ _ _ _ _ => a
  | _ => { posonlyargs:=[],args:=[],vararg:=none,kwonlyargs:=[],kw_defaults:=[],kwarg:=none,defaults:=[] }
def ZaU (s:Stmt):List Stmt:=match s with
  | .FunctionDef _ _ b _ _ _ _ _ _ _ => b
  | _ => []
def Zag (s:Stmt):Scope:=match s with
  | .FunctionDef _ _ _ _ _ _ sc _ _ _ => sc
  | _ => { kind:=.function,names:=[],isGenerator:=false,isCoroutine:=false }
abbrev CX0:CXT:=fun _ _ _ _ _ _ => False
abbrev E0:XK:=fun _ _ _ => False
theorem ZhD {X:Cx}:ZdP CX0 X E0:=fun _ _ _ _ _ _ _ h => h.elim
structure Fun (K:PySem.W.Frag) (x qual:Str) (st:Stmt) (f:Addr) (fd:FuncData):Prop where
  ex:∃ (oc:Value) (od:Option Addr) (kV doc pm:Value) (an:Option Addr) (cdv ct:Value) (osl:Array (Option Value)),
    fd = PySem.W.fnOf x qual (Zbm st) (ZaU st) (Zag st) .none kV doc pm an cdv ct ∧ K.lookup f = some ⟨oc,od,.func fd,osl⟩ ∧ PySem.W.codeIn K cdv qual = true
  kp:PySem.W.keepIn K (.ref f) = true
section
variable {P:Program} {w:World} {K:PySem.W.Frag} {mg:Str → Option Value} {base:Heap}
theorem Fun.ok {x qual:Str} {st:Stmt} {f:Addr} {fd:FuncData} {N ps:List Str} {k:Nat} {sp:Sp} (F:Fun K x qual st f fd) (S:FnScope N ps (Zag st)) (len:∀ vs H Q E,sp vs H Q E → vs.length = ps.length)
    (hbody:∀ (cdv:Value) (A:Around) (outer:List Env) (s:Shared) (H:Hp) (vs:List V) (Q:VK) (E:XK),Room k (A.deeper (envOfC qual (Zag st) s.heap.objs.size f cdv)) → sp vs H Q E →
      ∃ t,PSs (Zhc CX0 P w K mg base N qual (Zag st) f cdv A outer s H E).nox (ZaU st) t ∧ t { nx:=fun _ H' => Q .non H',rt:=Q } (start N vs) H):FnOk P w K mg base CX0 (k + 1) f fd ps sp:=by
  obtain ⟨oc,od,kV,doc,pm,an,cdv,ct,osl,rfl,lk,hcd⟩:=F.ex
  refine ZgL lk hcd S len fun A outer s H vs Q E hr hsp => ?_
  obtain ⟨t,h,q⟩:=hbody cdv A outer s H vs Q E hr hsp
  exact ⟨t,h.nox,q⟩
theorem Fun.binds {x qual:Str} {st:Stmt} {f:Addr} {fd:FuncData} {ps:List Str} (F:Fun K x qual st f fd)
    (h:∀ (kV doc pm:Value) (an:Option Addr) (cdv ct:Value) (us:List Value),us.length = ps.length → bindArgs (PySem.W.fnOf x qual (Zbm st) (ZaU st) (Zag st) .none kV doc pm an cdv ct) ⟨us,[]⟩ = pure (ps.zip us)):Binds K fd ps []:=by
  obtain ⟨oc,od,kV,doc,pm,an,cdv,ct,osl,rfl,lk,hcd⟩:=F.ex
  exact .all (h kV doc pm an cdv ct)
theorem Zf3 {x qual:Str} {st:Stmt} {f:Addr} {oc:Value} {od an:Option Addr} {osl:Array (Option Value)} {kV doc pm cdv ct:Value} (l:K.lookup f = some ⟨oc,od,.func (PySem.W.fnOf x qual (Zbm st) (ZaU st) (Zag st) .none kV doc pm an cdv ct),osl⟩)
    (c:PySem.W.codeIn K cdv qual = true) (k:PySem.W.keepIn K (.ref f) = true):Fun K x qual st f (PySem.W.fnOf x qual (Zbm st) (ZaU st) (Zag st) .none kV doc pm an cdv ct):=⟨⟨oc,od,kV,doc,pm,an,cdv,ct,osl,rfl,l,c⟩,k⟩
end
theorem ZbU {n:Nat} (h:n ≤ 1000):n < sizeLine:=Nat.lt_of_le_of_lt h (by decide)
section
variable {X:Cx}
theorem pv (i:Nat) {x:Str} {pos:Pos} (hN:X.N[i]? = some x:=by rfl) (hv:Vis X.env.scope x:=by first | exact Or.inl rfl | exact Or.inr (Or.inl rfl) | exact Or.inr (Or.inr rfl)) (hd:(x == ("__debug__" : Str)) = false:=by decide)
    (hcd:(x == ("__classdict__" : Str)) = false:=by decide):PE X (.Name x pos) (Zja i):=Zh5 hN hv hd hcd
end
theorem Zcj {A B:Prop} (h:B):if false = true then A else B:=by
  rw [if_neg Bool.false_ne_true]
  exact h
theorem Zb5 {A B:Prop} (h:A):if true = true then A else B:=by
  rw [if_pos rfl]
  exact h
theorem ZjD {c A B:Prop} [Decidable c] (h1:c → A) (h2:¬ c → B):if c then A else B:=by
  by_cases h:c
  · rw [if_pos h]
    exact h1 h
  · rw [if_neg h]
    exact h2 h
def Same (H H':Hp):Prop:=∀ b o,H b = some o → H' b = some o
theorem Same.refl (H:Hp):Same H H:=fun _ _ h => h
theorem Same.trans {H H1 H2:Hp} (a:Same H H1) (b:Same H1 H2):Same H H2:=fun c o h => b c o (a c o h)
theorem Same.free {H H':Hp} (e:Same H H') {l:Addr} (h:H' l = Option.none):H l = Option.none:=by
  cases q:H l with
  | none => rfl
  | some o =>
    rw [e l o q] at h
    cases h
theorem Same.seq {K:PySem.W.Frag} {H H':Hp} {a:Addr} {xs:List V} (e:Same H H') (h:SqL K H a xs):SqL K H' a xs:=by
  rcases h with (h | ⟨o,h⟩) | h
  · exact .inl (.inl (e _ _ h))
  · exact .inl (.inr ⟨o,e _ _ h⟩)
  · exact .inr h
end L2
set_option maxHeartbeats 4000000
namespace L2
open PySem PySem.Spec PyProof.Rows
theorem Zev {k:Int} {n:Nat} (h:k.natAbs < 2 ^ n):Builtin.Int.intBits k ≤ n:=by
  unfold Builtin.Int.intBits
  split
  · exact Nat.zero_le _
  · rename_i h0
    have hk:k.natAbs ≠ 0:=by
      intro z
      apply h0
      have:k = 0:=by omega
      simp [this]
    have:k.natAbs.log2 < n:=(Nat.log2_lt hk).mpr h
    omega
theorem Zew:10 ^ 150 < 2 ^ 600:=by decide +kernel
theorem Zf4 {i j:Int} (h:i.natAbs ≤ 10 ^ 150) (h':j.natAbs ≤ 10 ^ 150):IntMulOk i j :=
  .of_bits (Nat.le_trans (Zev (n:=600) (Nat.lt_of_le_of_lt h Zew)) (by decide)) (Nat.le_trans (Zev (n:=600) (Nat.lt_of_le_of_lt h' Zew)) (by decide))
theorem ZhE {j:Int} (h:j.natAbs ≤ 10 ^ 150):j.natAbs.log2 < 9000:=by
  rcases Nat.eq_zero_or_pos j.natAbs with z | z
  · rw [z]; decide
  · exact Nat.lt_trans ((Nat.log2_lt (Nat.ne_of_gt z)).mpr (Nat.lt_of_le_of_lt h Zew)) (by decide)
section
variable {X:Cx}
theorem Zb6:OpR X (binaryOp .Mult) (rI IntMulOk fun i j => .int (i * j)):=opI fun _ _ _ _ _ _ _ hc q => mul_int q hc
theorem ZeU:OpR X (binaryOp .FloorDiv) (rI (fun _ j => j ≠ 0 ∧ j.natAbs ≤ 10 ^ 150) fun i j => .int (i.fdiv j)):=opI fun _ _ _ _ _ _ _ hc q => floordiv_int hc.1 q (.inl (PyProof.noPylong_of_log2 (ZhE hc.2)))
theorem Zb7 {x:Str} {T:String} {pos:Pos} (hg:Gl X x) (hm:X.mg x = none) (hv:bootBuiltins x = some (.type T)) (hn:x ≠ "__name__" := by decide) (hd:(x == ("__debug__" : Str)) = false:=by decide):PE X (.Name x pos) (tC (.ty T)):=Zhs hg hm hv rfl hn hd
theorem Zbn:CallR X (.builtin "isinstance") (fun xs H Q => ∃ x T t b,xs = [x,.ty T] ∧ TyOf X.K H x t ∧ PySem.W.kitOne X.K t (.type T) = some b ∧ Q (.bl b) H):=by
  intro pins s σ H xs us Q I r h
  obtain ⟨x,T,t,b,rfl,ty,hk,q⟩:=h
  obtain ⟨u,w',rfl,r1,r2⟩:=Zhv r
  cases r2
  exact ZfV I r1 ty hk fun tk => ⟨.bl b,H,I.tok _,rfl,q⟩
end
theorem ZaD (K:PySem.W.Frag) (t:Value) (h:(t == t) = true:=by rfl):PySem.W.kitOne K t t = some true:=by
  unfold PySem.W.kitOne
  rw [if_pos h]
theorem Zdr (K:PySem.W.Frag) {t T:String} {b:Bool} (h0:((Value.type t) == (Value.type T)) = false) (h1:PySem.W.kitMeta T = true) (h:(PySem.fastBuiltinMro t).map (·.contains (Value.type T)) = some b):PySem.W.kitOne K (.type t) (.type T) = some b:=by
  unfold PySem.W.kitOne PySem.W.kitCls
  rw [if_neg (by rw [h0]; exact Bool.false_ne_true)]
  show (if PySem.W.kitMeta T = true then PySem.W.subIn K (Value.type t) (Value.type T) else none) = some b
  rw [if_pos h1]
  exact h
theorem Zbs (K:PySem.W.Frag):PySem.W.kitOne K (.type "int") (.type "bool") = some false:=Zdr K (by decide +kernel) (by decide +kernel) (by decide +kernel)
theorem ZdX (K:PySem.W.Frag):PySem.W.kitOne K (.type "bool") (.type "int") = some true:=Zdr K (by decide +kernel) (by decide +kernel) (by decide +kernel)
section
variable {A B:Prop}
theorem Zar {p:Prop} [Decidable p] (h1:p → A) (h2:¬ p → B):if decide p = true then A else B:=ZjD (fun c => h1 (of_decide_eq_true c)) fun c => h2 (of_decide_eq_false (Bool.eq_false_iff.mpr c))
theorem ZaJ {p:Prop} [Decidable p] (h1:¬ p → A) (h2:p → B):if (!decide p) = true then A else B:=by
  by_cases h:p
  · rw [decide_eq_true h]; exact Zcj (h2 h)
  · rw [decide_eq_false h]; exact Zb5 (h1 h)
theorem ZaS {a b:Int} (h1:a = b → A) (h2:a ≠ b → B):if decide (V.int a = V.int b) = true then A else B:=Zar (fun e => h1 (V.int.inj e)) fun e => h2 fun z => e (by rw [z])
theorem Zhe {a b:Int} (h1:a ≠ b → A) (h2:a = b → B):if (!decide (V.int a = V.int b)) = true then A else B:=ZaJ (fun e => h1 fun z => e (by rw [z])) fun e => h2 (V.int.inj e)
end
theorem ZeV {a b:Int} (h:a = b):decide (V.int a = V.int b) = true:=decide_eq_true (by rw [h])
theorem ZhF (a b:Int):decide (V.int a = V.int b) = decide (a = b):=by
  by_cases h:a = b
  · rw [decide_eq_true h,ZeV h]
  · rw [decide_eq_false h,decide_eq_false fun z => h (V.int.inj z)]
structure Here (K:PySem.W.Frag) (mg:Str → Option Value) (x:Str) (st:Stmt):Prop where
  ex:∃ (f:Addr) (fd:FuncData),Fun K x x st f fd ∧ mg x = some (.ref f)
structure Has (P:Program) (w:World) (K:PySem.W.Frag) (mg:Str → Option Value) (base:Heap) (x:Str) (k:Nat) (ps:List Str) (sp:Sp):Prop where
  ex:∃ (f:Addr) (fd:FuncData),FnOk P w K mg base CX0 k f fd ps sp ∧ mg x = some (.ref f) ∧ PySem.W.keepIn K (.ref f) = true ∧ Binds K fd ps []
section
variable {P:Program} {w:World} {K:PySem.W.Frag} {mg:Str → Option Value} {base:Heap} {x:Str} {st:Stmt} {k j:Nat} {ps:List Str} {sp:Sp}
theorem Has.mono (h:Has P w K mg base x j ps sp) (e:j ≤ k):Has P w K mg base x k ps sp :=
  let ⟨f,fd,a,b,c,d⟩:=h.ex
  ⟨f,fd,a.mono e,b,c,d⟩
theorem Here.has (h:Here K mg x st) (b:∀ f fd,Fun K x x st f fd → Binds K fd ps []) (ok:∀ f fd,Fun K x x st f fd → FnOk P w K mg base CX0 k f fd ps sp):Has P w K mg base x k ps sp :=
  let ⟨f,fd,F,m⟩:=h.ex
  ⟨f,fd,ok f fd F,m,F.kp,b f fd F⟩
theorem here_mk {h:Heap} {f:Addr} {oc:Value} {od an:Option Addr} {osl:Array (Option Value)} {kV doc pm cdv ct:Value} (X:K.In h) (G:h.Ns mainGlobals mg) (a:PySem.W.nsIn K mainGlobals x = some (some (.ref f)))
    (l:K.lookup f = some ⟨oc,od,.func (PySem.W.fnOf x x (Zbm st) (ZaU st) (Zag st) .none kV doc pm an cdv ct),osl⟩)
    (c:PySem.W.codeIn K cdv x = true) (k:PySem.W.keepIn K (.ref f) = true):Here K mg x st:=⟨f,_,Zf3 l c k,PySem.W.mg_of X G a⟩
end
theorem Zay {X:Cx} {x:Str} {k:Nat} {ps:List Str} {sp:Sp} {e:Expr} {es:List Expr} {t:TA} {p pos:Pos} (h:Has X.prog X.w X.K X.mg X.base x k ps sp) (hr:Room k X.A) (hg:Gl X x) (ha:PA X (e :: es) t) (hdb:(x == ("__debug__" : Str)) = false:=by decide)
    (he:starEach (e :: es) X.env = (false,eval e X.env) :: starEach es X.env:=by rfl) (hpl:(backTo pos (starEach es X.env)).any (·.1) = false:=by rfl):PE X (.Call (.Name x p) (e :: es) [] pos) (Zim sp [] E0 t):=by
  obtain ⟨f,fd,F,hm,hk,hb⟩:=h.ex
  exact Zhz F hr hg hm hk hb .nil ZhD ha hdb he hpl
theorem Zak {H:Hp} {p:Addr} (h:H p = none) (o:HO):Same H (upd H p o):=fun b u q => by rw [Zan (Zaz q h)]; exact q
theorem Same.tup {K:PySem.W.Frag} {H H':Hp} {a:Addr} {xs:List V} (e:Same H H') (h:SqT K H a xs):SqT K H' a xs:=by
  rcases h with (h | ⟨o,h⟩) | h
  · exact .inl (.inl (e _ _ h))
  · exact .inl (.inr ⟨o,e _ _ h⟩)
  · exact .inr h
end L2
namespace L2
open PySem PySem.Spec PyProof.Rows
def ZdJ (cells:List (Str × Addr)):List (Str × NameKind) → List (Str × Addr) → List (Str × Addr)
  | [],cs => cs
  | (n,k) :: r,cs => ZdJ cells r (if k = NameKind.free then (match cells.lookup n with | some a => (n,a) :: cs | none => cs) else cs)
theorem Zcs {cells:List (Str × Addr)}:∀ (ns:List (Str × NameKind)) (cs:List (Str × Addr)),(∀ p ∈ cs,cells.lookup p.1 = some p.2) → ∀ p ∈ ZdJ cells ns cs,cells.lookup p.1 = some p.2
  | [],_,h => h
  | (n,k) :: r,cs,h => by
    refine Zcs r _ fun p hp => ?_
    by_cases hk:k = NameKind.free
    · rw [if_pos hk] at hp
      cases e:cells.lookup n with
      | none => rw [e] at hp; exact h p hp
      | some a =>
        rw [e] at hp
        rcases List.mem_cons.mp hp with rfl | hp
        · exact e
        · exact h p hp
    · rw [if_neg hk] at hp
      exact h p hp
theorem ZeW {cells:List (Str × Addr)}:∀ (ns:List (Str × NameKind)) (cs:List (Str × Addr)),∀ p ∈ cs,p ∈ ZdJ cells ns cs
  | [],_,_,h => h
  | (n,k) :: r,cs,p,h => by
    refine ZeW r _ p ?_
    by_cases hk:k = NameKind.free
    · rw [if_pos hk]
      cases e:cells.lookup n with
      | none => exact h
      | some a => exact List.mem_cons_of_mem _ h
    · rw [if_neg hk]; exact h
theorem Zct {cells:List (Str × Addr)} {x:Str}:∀ (ns:List (Str × NameKind)) (cs:List (Str × Addr)),(x,NameKind.free) ∈ ns → (∃ c,cells.lookup x = some c) → ∃ c,(x,c) ∈ ZdJ cells ns cs
  | (n,k) :: r,cs,h,hc => by
    rcases List.mem_cons.mp h with e | h
    · cases e
      obtain ⟨c,hc⟩:=hc
      refine ⟨c,ZeW r _ _ ?_⟩
      rw [if_pos rfl,hc]
      exact List.mem_cons_self
    · exact Zct r _ h hc
theorem Za4 {β:Type} {x:Str} {c:β}:∀ {l:List (Str × β)},(x,c) ∈ l → ∃ d,l.lookup x = some d
  | (n,a) :: r,h => by
    by_cases hx:x = n
    · exact ⟨a,by simp [List.lookup_cons,hx]⟩
    · rcases List.mem_cons.mp h with e | h
      · cases e; exact absurd rfl hx
      · obtain ⟨d,hd⟩:=Za4 h
        refine ⟨d,?_⟩
        have hb:(x == n) = false:=beq_eq_false_iff_ne.mpr hx
        simp only [List.lookup_cons,hb]
        exact hd
theorem Zda {env:Env} {α:Type} (k:List (Str × Addr) → Sem α):∀ (ns:List (Str × NameKind)) (cs:List (Str × Addr)),(∀ y,(y,NameKind.free) ∈ ns → ∃ c,env.cells.lookup y = some c) →
    (forIn ns cs (fun (x:Str × NameKind) (r:List (Str × Addr)) => if (x.2 == NameKind.free) = true then (do let a ← cellOf env x.1; pure (ForInStep.yield ((x.1,a) :: r))) else pure (ForInStep.yield r)):Sem _) = pure (ZdJ env.cells ns cs)
  | [],cs,_ => rfl
  | (n,kd) :: r,cs,h => by
    have ih:=fun cs => Zda k r cs fun y hy => h y (List.mem_cons_of_mem _ hy)
    rw [List.forIn_cons]
    by_cases hk:kd = NameKind.free
    · subst hk
      obtain ⟨c,hc⟩:=h n List.mem_cons_self
      show ((cellOf env n >>= fun a => pure (ForInStep.yield ((n,a) :: cs))) >>= _:Sem _) = _
      have hce:cellOf env n = pure c:=by unfold cellOf; rw [hc]
      rw [hce]
      show (forIn r ((n,c) :: cs) _:Sem _) = _
      rw [ih]
      show _ = pure (ZdJ env.cells r (if NameKind.free = NameKind.free then (match env.cells.lookup n with | some a => (n,a) :: cs | none => cs) else cs))
      rw [if_pos rfl,hc]
    · have hb:(kd == NameKind.free) = false:=by simpa using hk
      show ((if (kd == NameKind.free) = true then (do let a ← cellOf env n; pure (ForInStep.yield ((n,a) :: cs))) else pure (ForInStep.yield cs)) >>= _:Sem _) = _
      rw [hb,if_neg Bool.false_ne_true]
      show (forIn r cs _:Sem _) = _
      rw [ih]
      show _ = pure (ZdJ env.cells r (if kd = NameKind.free then _ else cs))
      rw [if_neg hk]
theorem Zb8 {scope:Scope} {env:Env} (h:∀ y,(y,NameKind.free) ∈ scope.names → ∃ c,env.cells.lookup y = some c):closureFor scope env = pure (ZdJ env.cells scope.names []):=by
  unfold closureFor
  have:=Zda (env:=env) (α:=List (Str × Addr)) pure scope.names [] h
  show (forIn scope.names [] (fun (x:Str × NameKind) (r:List (Str × Addr)) => if (x.2 == NameKind.free) = true then (do let a ← cellOf env x.1; pure (ForInStep.yield ((x.1,a) :: r))) else pure (ForInStep.yield r)) >>= fun cs => pure cs:Sem _) = _
  rw [this]
  rfl
theorem Zds {scope:Scope} {env:Env} (h:(scope.names.all fun y => !(y.2 == NameKind.free) || (env.cells.lookup y.1).isSome) = true):∀ y,(y,NameKind.free) ∈ scope.names → ∃ c,env.cells.lookup y = some c:=fun y hy => by
  have e:(env.cells.lookup y).isSome = true:=List.all_eq_true.mp h (y,NameKind.free) hy
  exact Option.isSome_iff_exists.mp e
def CapsOk (X:Cx) (scope:Scope):List (Nat × Str) → Prop
  | [] => True
  | p :: r => (X.N[p.1]? = some p.2 ∧ scope.names.lookup p.2 = some .free ∧ (X.env.kindOf p.2 = some .cell ∨ X.env.kindOf p.2 = some .free)) ∧ CapsOk X scope r
theorem CapsOk.mem {X:Cx} {scope:Scope}:∀ {caps:List (Nat × Str)},CapsOk X scope caps → ∀ p ∈ caps,X.N[p.1]? = some p.2 ∧ scope.names.lookup p.2 = some .free ∧ (X.env.kindOf p.2 = some .cell ∨ X.env.kindOf p.2 = some .free)
  | [],_,_,h => nomatch h
  | _ :: _,⟨h1,h2⟩,p,h => by
    rcases List.mem_cons.mp h with rfl | h
    · exact h1
    · exact h2.mem p h
def Za2 (X:Cx) (scope:Scope) (N:List Str) (s₀:Shared) (H₀:Hp) (C:Addr) (fp:List Addr):Cx where
  prog:=X.prog
  w:=X.w
  K:=X.K
  mg:=X.mg
  base:=X.base
  A:=X.A
  N:=N
  s₀:=s₀
  H₀:=H₀
  env:=compEnvC scope (ZdJ X.env.cells scope.names []) C X.env
  outer:=X.stack
  stack:=X.stack
  ex:=fp
  fn:=fun _ => false
  calm:=X.calm
  pn:=[]
  xe:=fun _ _ => False
def st0 (k:Nat) (caps:List (Nat × Str)) (σ:St):St:=List.replicate k none ++ caps.map fun p => (σ[p.1]?).join
theorem ZdY {prog:Program} {w:World} {A:Around} {R:Result → Shared → Prop} {s:Shared} {elt target iter:Expr} {scope:Scope} {pos:Pos} {it acc:Value} {env:Env} (I:Nat → Shared → Prop)
    (turn:∀ n s,I n s → wpAny (model prog w) A (pyNext it) (fun r s₁ => match r with
      | none => R (.ok .next) s₁
      | some v => wpAny (model prog w) A (letOwnedTupleGo target it v) (fun _ s₁ => wpAny (model prog w) A (assign target env v) (fun _ s₂ => wpAny (model prog w) A (eval elt env) (fun x s₃ =>
          wpAny (model prog w) A (call (.builtin "list.append") [acc,x]) (fun _ s₄ => ∃ m,m < n ∧ I m s₄) (fun _ _ => False) s₃)
          (fun _ _ => False) s₂) (fun _ _ => False) s₁) (fun _ _ => False) s₁) (fun _ _ => False) s)
    (n:Nat) (h:I n s) :
    codeAny (model prog w) A (.compLoop (.ListComp elt [⟨target,iter,[],0⟩] scope pos) 0 it acc env) R s:=by
  refine codeAny_loop rfl I (fun n s hI => ?_) n h
  show wpAny _ _ ((compTurn (.ListComp elt [⟨target,iter,[],0⟩] scope pos) 0 it acc env).onRaise (fun x => do noteFrame x env; theTreesLotGoes x)) _ _ s
  refine wpAny_noted ?_
  rw [compTurn_list1]
  refine wpAny_bind (wpAny_standAt (wpAny_bind (wpAny_mono (turn n s hI) (fun r s₁ h₁ => ?_) fun _ _ h' => False.elim h')))
  cases r with
  | none => exact wpAny_pure h₁
  | some v =>
    refine wpAny_bind (wpAny_mono h₁ (fun _ s₁ h₁ => ?_) fun _ _ h' => False.elim h')
    exact wpAny_bind (wpAny_mono h₁ (fun _ s₂ h₂ => wpAny_bind (wpAny_bind (wpAny_mono h₂ (fun x s₃ h₃ => wpAny_bind (wpAny_mono h₃
      (fun _ s₄ h₄ => wpAny_pure (wpAny_pure ⟨rfl,h₄⟩)) fun _ _ h' => False.elim h')) fun _ _ h' => False.elim h'))) fun _ _ h' => False.elim h')
def ZcI (k:Nat) (caps:List (Nat × Str)) (g:TG) (te:TE) (σ:St) (J:It) (H:Hp) (Q:List V → Hp → Prop):Prop :=
  ∃ W:Nat → Nat → List V → Hp → Prop,(∃ m,W 0 m [] H) ∧ ∀ i m ys H',W i m ys H' → ys.length ≤ sizeLine ∧ ((J.stop i H' ∧ Q ys H') ∨
    (J.go i H' ∧ ys.length < sizeLine ∧ ∃ N:V → Hp → Prop,(∀ v H4,N v H4 → ∃ m',m' < m ∧ W (i + 1) m' (ys ++ [v]) H4) ∧
      ∀ x H2,J.yld i H' x H2 → g x (st0 k caps σ) H2 fun σ2 H3 => (∀ (i:Nat) v,(st0 k caps σ)[i]? = some (some v) → σ2[i]? = some (some v)) ∧ te σ2 H3 N))
def ZhG (k:Nat) (caps:List (Nat × Str)) (wi:TI) (g:TG) (te:TE):TE:=fun σ H Q => wi σ H fun J H1 => ZcI k caps g te σ J H1 fun ys H2 => ∀ D,H2 D = none → Q (.ref D) (upd H2 D (.lst ys))
section
variable {X:Cx} {tg iter elt:Expr} {scope:Scope} {pos:Pos} {wi:TI} {g:TG} {te:TE} {own:List Str} {caps:List (Nat × Str)}
theorem Zck {scope:Scope} {env:Env} {x:Str} (hx:scope.names.lookup x = some .free):(relabel scope env).names.lookup x = some .cell ∨ (relabel scope env).names.lookup x = some .free:=by
  unfold relabel
  show (scope.names.map _).lookup x = _ ∨ (scope.names.map _).lookup x = _
  generalize scope.names = ns at hx
  induction ns with
  | nil => simp at hx
  | cons p r ih =>
    obtain ⟨n,k⟩:=p
    rw [List.map_cons]
    by_cases hn:x = n
    · subst hn
      simp only [List.lookup_cons,beq_self_eq_true] at hx
      cases hx
      by_cases hc:((NameKind.free == NameKind.free) && env.scope.kind == .function && env.kindOf x == some .cell) = true
      · left
        show List.lookup x ((if _ = true then (x,NameKind.cell) else (x,NameKind.free)) :: _) = _
        rw [if_pos hc]
        simp [List.lookup_cons]
      · right
        show List.lookup x ((if _ = true then (x,NameKind.cell) else (x,NameKind.free)) :: _) = _
        rw [if_neg hc]
        simp [List.lookup_cons]
    · have hb:(x == n) = false:=beq_eq_false_iff_ne.mpr hn
      simp only [List.lookup_cons,hb] at hx
      have:=ih hx
      show List.lookup x ((if _ = true then (n,NameKind.cell) else (n,k)) :: _) = _ ∨ List.lookup x ((if _ = true then (n,NameKind.cell) else (n,k)) :: _) = _
      split <;> (simp only [List.lookup_cons,hb]; exact this)
theorem Zcl {scope:Scope} {env:Env} {x:Str} (hc:∀ y ∈ scope.names,y.2 ≠ .cell) (hx:(relabel scope env).names.lookup x = some .cell ∨ (relabel scope env).names.lookup x = some .free):(x,NameKind.free) ∈ scope.names:=by
  unfold relabel at hx
  have hx:(scope.names.map fun (n,k) => if (k == NameKind.free && env.scope.kind == .function && env.kindOf n == some .cell) then (n,NameKind.cell) else (n,k)).lookup x = some .cell ∨ (scope.names.map fun (n,k) => if (k == NameKind.free && env.scope.kind == .function && env.kindOf n == some .cell) then (n,NameKind.cell) else (n,k)).lookup x = some .free:=hx
  generalize scope.names = ns at hx hc
  induction ns with
  | nil => simp at hx
  | cons p r ih =>
    obtain ⟨n,k⟩:=p
    rw [List.map_cons] at hx
    have hr:=fun z => ih z (fun y hy => hc y (List.mem_cons_of_mem _ hy))
    by_cases hn:x = n
    · subst hn
      by_cases hk:k = NameKind.free
      · subst hk; exact List.mem_cons_self
      · have hb:(k == NameKind.free) = false:=by simpa using hk
        have hx':List.lookup x ((x,k) :: List.map (fun (p:Str × NameKind) => match p with | (n,k) => if (k == NameKind.free && env.scope.kind == .function && env.kindOf n == some .cell) = true then (n,NameKind.cell) else (n,k)) r) = some .cell ∨ List.lookup x ((x,k) :: List.map (fun (p:Str × NameKind) => match p with | (n,k) => if (k == NameKind.free && env.scope.kind == .function && env.kindOf n == some .cell) = true then (n,NameKind.cell) else (n,k)) r) = some .free:=by
          simpa [hb] using hx
        simp only [List.lookup_cons,beq_self_eq_true,Option.some.injEq] at hx'
        rcases hx' with e | e
        · exact absurd e (hc (x,k) List.mem_cons_self)
        · exact absurd e hk
    · have hb:(x == n) = false:=beq_eq_false_iff_ne.mpr hn
      refine List.mem_cons_of_mem _ (hr ?_)
      have hx2:List.lookup x ((if (k == NameKind.free && env.scope.kind == .function && env.kindOf n == some .cell) = true then (n,NameKind.cell) else (n,k)) :: List.map (fun (p:Str × NameKind) => match p with | (n,k) => if (k == NameKind.free && env.scope.kind == .function && env.kindOf n == some .cell) = true then (n,NameKind.cell) else (n,k)) r) = some .cell ∨ List.lookup x ((if (k == NameKind.free && env.scope.kind == .function && env.kindOf n == some .cell) = true then (n,NameKind.cell) else (n,k)) :: List.map (fun (p:Str × NameKind) => match p with | (n,k) => if (k == NameKind.free && env.scope.kind == .function && env.kindOf n == some .cell) = true then (n,NameKind.cell) else (n,k)) r) = some .free:=hx
      split at hx2 <;> (simp only [List.lookup_cons,hb] at hx2; exact hx2)
end
end L2
namespace L2
open PySem PySem.Spec PyProof.Rows
section
variable {X:Cx} {tg iter elt:Expr} {scope:Scope} {pos:Pos} {wi:TI} {g:TG} {te:TE} {own:List Str} {caps:List (Nat × Str)}
theorem ZdZ {pins:List (Addr × Obj)} {σ:St} {H:Hp} {s:Shared} {fp:List Addr} {C:Addr} {N:List Str} (I:Inv X pins σ H s) (hkind:scope.kind = .function) (hcell:∀ y ∈ scope.names,y.2 ≠ .cell)
    (hfree:∀ y,(y,NameKind.free) ∈ scope.names → ∃ c,X.env.cells.lookup y = some c) (hC:s.heap.objs.size ≤ C) (hf:∀ b ∈ fp,Zer X pins H b) (hlt:∀ b ∈ fp,b < s.heap.objs.size):(Za2 X scope N s H C fp).Ok:=by
  have sub:∀ x c,(ZdJ X.env.cells scope.names []).lookup x = some c → X.env.cells.lookup x = some c:=fun x c e => Zcs scope.names [] (fun p hp => (nomatch hp)) (x,c) (PySem.mem_of_lookup e)
  refine ⟨I.ok.mod,hkind,I.ok.glob,I.ok.blt,hC,fun x y c h1 h2 => I.ok.inj x y c (sub x c h1) (sub y c h2),fun x hx => ?_,fun x c h => (Bool.false_ne_true h).elim,I.ok.hd,I.ok.frames,.inl rfl,fun b hb => ⟨?_,fun x c e => (hf b hb).2.2.2.2.1 x c (sub x c e)⟩,I.bs,Nat.le_trans I.ok.bsz I.sz,fun b o e hb => ?_,fun b hb z => ?_,I.stack,I.stkFree⟩
  · obtain ⟨c,hc⟩:=Zct scope.names [] (Zcl hcell hx) (hfree x (Zcl hcell hx))
    exact Za4 hc
  · exact Nat.ne_of_lt (Nat.lt_of_lt_of_le (hlt b hb) hC)
  · rcases (hf b hb).2.2.2.1 with z | z
    · exact I.ok.noex b o e z
    · exact absurd (Nat.lt_of_lt_of_le (Heap.lt_size e) (Nat.le_trans I.ok.bsz z)) (Nat.lt_irrefl _)
  · rcases List.mem_cons.mp (I.stkSub b z) with e | e
    · exact (hf b hb).2.1 e
    · exact (hf b hb).2.2.1 e
theorem Zf5 (k:Nat) (caps:List (Nat × Str)) (σ:St):(st0 k caps σ).length = k + caps.length:=by
  unfold st0
  rw [List.length_append,List.length_replicate,List.length_map]
theorem Zf6 {k:Nat} {caps:List (Nat × Str)} {σ:St} {i:Nat} {v:V} (h:(st0 k caps σ)[i]? = some (some v)):k ≤ i ∧ ∃ p,caps[i - k]? = some p ∧ σ[p.1]? = some (some v):=by
  unfold st0 at h
  by_cases hi:i < k
  · rw [List.getElem?_append_left (by rw [List.length_replicate]; exact hi),List.getElem?_replicate,if_pos hi] at h
    cases h
  · have hk:k ≤ i:=Nat.not_lt.mp hi
    refine ⟨hk,?_⟩
    rw [List.getElem?_append_right (by rw [List.length_replicate]; exact hk),List.length_replicate,List.getElem?_map] at h
    cases e:caps[i - k]? with
    | none => rw [e] at h; cases h
    | some p =>
      rw [e] at h
      refine ⟨p,rfl,?_⟩
      have h':(σ[p.1]?).join = some v:=Option.some.inj h
      cases q:σ[p.1]? with
      | none => rw [q] at h'; cases h'
      | some o => rw [q] at h'; cases o with
        | none => cases h'
        | some w => cases h'; rfl
theorem Zd0 {pins:List (Addr × Obj)} {σ:St} {H:Hp} {s:Shared} {fp:List Addr} {it:Addr} {tn:Nat → Heap → Prop} {J:It} {E:Value → Shared → Prop} {RR:Value → Addr → Result → Shared → Prop} {QL:List V → Hp → Prop}
    (I:Inv X pins σ H s) (hc:X.calm = true) (T:Turn X.prog X.w X.K tg J fp it tn) (st:tn 0 s.heap) (hf:∀ b ∈ fp,Zer X pins H b)
    (hkind:scope.kind = .function) (hcell:∀ y ∈ scope.names,y.2 ≠ .cell) (hfree:∀ y,(y,NameKind.free) ∈ scope.names → ∃ c,X.env.cells.lookup y = some c) (hcap:CapsOk X scope caps)
    (hg:∀ s₀ H₀ C,PG (Za2 X scope (own ++ caps.map (·.2)) s₀ H₀ C fp) tg g) (he:∀ s₀ H₀ C,PE (Za2 X scope (own ++ caps.map (·.2)) s₀ H₀ C fp) elt te)
    (hB:ZcI own.length caps g te σ J H QL)
    (fin:∀ D C s' m ys H',s.heap.objs.size ≤ C → D ≠ C → s'.heap.Ns C m → Inv X pins σ (upd H' D (.lst ys)) s' → H' D = none → H' C = none → QL ys H' → RR (.ref D) C (.ok .next) s') :
    wpAny (model X.prog X.w) X.A (newList []) (fun acc s₃ => wpAny (model X.prog X.w) X.A (newFunctionEnv scope X.env.globals (ZdJ X.env.cells scope.names []) [] X.env.qual none .none (some X.env)) (fun cenv s₄ =>
      codeAny (model X.prog X.w) X.A (.compStart (.ListComp elt [⟨tg,iter,[],0⟩] scope pos) 0 (.ref it) acc { cenv with scope:=relabel scope X.env }) (RR acc cenv.locals) s₄) E s₃) E s:=by
  refine wpAny_newObj_type (wpAny_newFunctionEnv hcell (by intro y hy; simp at hy) (fun h₁ hns₁ hsb₁ => ?_) hkind)
  dsimp only at hns₁ hsb₁ ⊢
  generalize hH2:s.heap.push { cls:=.type "list", dict:=none,data:=.seq ([]:List Value).toArray } = H2 at hns₁ hsb₁ ⊢
  have hC:H2.objs.size = s.heap.objs.size + 1:=by rw [← hH2,Heap.size_push]
  generalize hCC:H2.objs.size = C at *
  have hCle:s.heap.objs.size ≤ C:=by rw [hC]; exact Nat.le_succ _
  generalize hDD:s.heap.objs.size = D at *
  have hDC:D ≠ C:=by rw [hC]; exact Nat.ne_of_lt (Nat.lt_succ_self _)
  have below:∀ b,b < D → b ≠ C ∧ b ≠ D:=fun b hb => ⟨by rw [hC]; exact Nat.ne_of_lt (Nat.lt_succ_of_lt hb),Nat.ne_of_lt hb⟩
  have lts:∀ {b o},s.heap.get? b = some o → b < D:=fun {b o} e => by rw [← hDD]; exact Heap.lt_size e
  have old:∀ b o,s.heap.get? b = some o → h₁.get? b = some o:=fun b o e => hsb₁.extBut b o (below b (lts e)).1 (Heap.get?_push_of_some _ (hH2 ▸ Heap.get?_push_of_some _ e))
  have hacc:h₁.get? D = some { cls:=.type "list", data:=.seq ([]:List Value).toArray 0 }:=hsb₁.extBut _ _ hDC (Heap.get?_push_of_some _ (hH2 ▸ (hDD ▸ Heap.get?_push_size _ rfl)))
  have hlt:∀ b ∈ fp,b < D:=fun b hb => let ⟨o,e,_⟩:=T.obj 0 _ st b hb; lts e
  have freshS:∀ b,D ≤ b → s.heap.get? b = none:=fun b hb => by
    cases e:s.heap.get? b with
    | none => rfl
    | some o => exact absurd (lts e) (Nat.not_lt.mpr hb)
  have nH:∀ b,D ≤ b → H b = none:=fun b hb => I.hok.fresh (by rw [hDD]; exact hb)
  let Y:Cx:=Za2 X scope (own ++ caps.map (·.2)) s H C fp
  have okY:Y.Ok:=ZdZ I hkind hcell hfree (by rw [hDD]; exact hCle) hf (by rw [hDD]; exact hlt)
  have sub:∀ x c,(ZdJ X.env.cells scope.names []).lookup x = some c → X.env.cells.lookup x = some c:=fun x c e => Zcs scope.names [] (fun p hp => (nomatch hp)) (x,c) (PySem.mem_of_lookup e)
  have celllt:∀ x c,X.env.cells.lookup x = some c → c < D:=fun x c e => by
    obtain ⟨v,o,ho,_⟩:=I.cell x c e
    exact lts ho
  have stklt:∀ b ∈ frs X.stack,b < D:=fun b hb => by
    rcases List.mem_cons.mp (I.stkSub b hb) with e | e
    · rw [e,← hDD]; exact I.lt
    · obtain ⟨_,o,ho,_⟩:=I.funs.mem e
      exact lts ho
  have I0:Inv Y [] (st0 own.length caps σ) H { s with heap:=h₁,toks:=s.toks + ([]:List (Str × Value)).length }:=by
    refine ⟨okY,rfl,I.bare,Un.kept old,⟨_,hns₁,fun i x v h1 h2 h3 => ?_⟩,fun x c e => ?_,nH C hCle,fun x c e => I.freeC x c (sub x c e),fun p hp => ?_,I.hok.kept old,?_⟩
    · obtain ⟨hk,p,hp,hv⟩:=Zf6 h2
      have h1':caps[i - own.length]?.map (·.2) = some x:=by
        have:(own ++ caps.map (·.2))[i]? = some x:=h1
        rw [List.getElem?_append_right hk,List.getElem?_map] at this
        exact this
      rw [hp] at h1'
      cases h1'
      obtain ⟨q1,q2,q3⟩:=hcap.mem p (List.mem_of_getElem? hp)
      obtain ⟨m,hn,hl⟩:=I.loc
      obtain ⟨u,r,l⟩:=hl p.1 p.2 v q1 hv (by rcases q3 with z | z; exact .inr (.inl z); exact .inr (.inr z))
      refine ⟨u,r,.inr ⟨Zck q2,?_⟩⟩
      rcases l with ⟨z,_⟩ | ⟨_,c,hc',z⟩
      · rcases q3 with y | y <;> (rw [y] at z; cases z)
      · have hm:(p.2,NameKind.free) ∈ scope.names:=PySem.mem_of_lookup q2
        obtain ⟨d,hd⟩:=Zct scope.names [] hm ⟨c,hc'⟩
        obtain ⟨d',hd'⟩:=Za4 hd
        have e:=sub _ _ hd'
        rw [hc'] at e
        cases e
        obtain ⟨oc,ho,hdt⟩:=z
        exact ⟨c,hd',oc,old _ _ ho,hdt⟩
    · obtain ⟨v,o,ho,hd⟩:=I.cell x c (sub x c e)
      exact ⟨v,o,old _ _ ho,hd⟩
    · exact absurd (show p ∈ ([]:List (Addr × Obj)) from hp) (by simp)
    · rw [Zf5]
      show _ = (own ++ caps.map (·.2)).length
      rw [List.length_append,List.length_map]
  have pinD:∀ {its:List Value} {n:Nat} {σ':St} {H':Hp} {s':Shared},Inv Y [] σ' H' s' → H' D = none → s'.heap.get? D = some { cls:=.type "list", data:=.seq its.toArray n } → Inv Y [(D,{ cls:=.type "list", data:=.seq its.toArray n })] σ' H' s':=fun {its n σ' H' s'} J hn e =>
    J.pins_of fun p hp => by
      have ep:p = (D,{ cls:=.type "list", data:=.seq its.toArray n }):=List.mem_singleton.mp hp
      subst ep
      refine ⟨e,hn,hDC,fun z => ?_,fun v z => by cases z⟩
      exact absurd (stklt D z) (Nat.lt_irrefl _)
  obtain ⟨W,⟨m0,w0⟩,turn⟩:=hB
  have fpY:∀ {H':Hp} {pins':List (Addr × Obj)},(∀ b ∈ fp,H' b = none) → (∀ p ∈ pins',∀ b ∈ fp,p.1 ≠ b) → ∀ b ∈ fp,Zer Y pins' H' b:=fun {H' pins'} hn hp b hb =>
    ⟨hn b hb,(okY.exf b hb).1,okY.exfs b hb,.inl hb,(okY.exf b hb).2,fun p q => hp p (by simpa [Y,Za2] using q) b hb⟩
  have loop:∀ s₃:Shared,s₃ = { s with heap:=h₁,toks:=s.toks + ([]:List (Str × Value)).length } →
      codeAny (model X.prog X.w) X.A (.compLoop (.ListComp elt [⟨tg,iter,[],0⟩] scope pos) 0 (.ref it) (.ref D) (compEnvC scope (ZdJ X.env.cells scope.names []) C X.env)) (RR (.ref D) C) s₃:=by
    rintro s₃ rfl
    refine ZdY (fun k s' => ∃ (i:Nat) (ys:List V) (its:List Value) (n:Nat) (H':Hp),Inv Y [(D,{ cls:=.type "list", data:=.seq its.toArray n })] (st0 own.length caps σ) H' s' ∧ tn i s'.heap ∧ (∀ b ∈ fp,H' b = none) ∧ Vals ys its ∧ W i k ys H') ?_ m0
      ⟨0,[],[],0,H,pinD I0 (nH D (Nat.le_refl _)) hacc,T.keep _ _ _ st fun b _ o e => old b o e,fun b hb => (hf b hb).1,.nil,w0⟩
    rintro k s3 ⟨i,ys,its,n,H3,I3,st3,fr3,rv,w3⟩
    obtain ⟨pD,nD,_⟩:=I3.pin (D,{ cls:=.type "list", data:=.seq its.toArray n }) (List.mem_append_right _ List.mem_cons_self)
    have ff:=fpY (pins':=[(D,{ cls:=.type "list", data:=.seq its.toArray n })]) fr3 (fun p hp b hb => by
      rw [List.mem_singleton.mp hp]; exact (Ne.symm (below b (hlt b hb)).2))
    obtain ⟨hsz,turn⟩:=turn i k ys H3 w3
    rcases turn with ⟨stop,q⟩ | ⟨go,hsz',NN,hNN,step⟩
    · refine thn (T.done Y rfl rfl rfl hc i _ s3 _ H3 _ I3 ff st3 stop) fun r s4 ⟨hr,I4⟩ => ?_
      subst hr
      obtain ⟨m4,hn4,_⟩:=I4.loc
      obtain ⟨pD4,nD4,_⟩:=I4.pin (D,{ cls:=.type "list", data:=.seq its.toArray n }) (List.mem_append_right _ List.mem_cons_self)
      refine fin D C s4 m4 ys H3 hCle hDC hn4 ?_ nD4 I4.free q
      have hk:=I4.base
      have hok4:HOk X.prog X.w H3 s4.heap:=I4.hok
      have neD:∀ b u,H3 b = some u → b ≠ D:=fun b u e z => by rw [z,nD4] at e; cases e
      refine I.call' (ch:=fp) I4.os ⟨fun b o e n hb hx => hk.keep b o e n hb hx,fun b o e n hb hx => hk.slot b o e n hb hx,fun b o e n hx => ?_,fun b o e hx => hk.there b o e hx,fun b xs e => ?_,fun b o u e => ?_,fun b ps e => ?_⟩ ?_ I4.bare ?_
      · rw [Zan (below b (lts e)).2]; exact hk.free b o e n hx
      · have:=hk.tups b xs e
        rw [Zan (neD b _ this)]; exact this
      · have:=hk.frzs b o u e
        rw [Zan (neD b _ this)]; exact this
      · obtain ⟨more,e'⟩:=hk.tbls b ps e
        exact ⟨more,by rw [Zan (neD b _ e')]; exact e'⟩
      · intro b u e
        by_cases hb:b = D
        · subst hb
          rw [Zaf] at e
          cases e
          exact ⟨hsz,its,n,rv,pD4⟩
        · rw [Zan hb] at e
          exact (hok4 b u e).stay (fun c v _ q => q) (fun c q => by rw [Zan (neD c _ q)]; exact q) fun c xs q => by rw [Zan (neD c _ q)]; exact q
      · intro b hb
        obtain ⟨_,f1,_,f3,f4,f5⟩:=hf b hb
        exact ⟨f3,f1,f4,f5⟩
    · refine thn (T.item Y rfl rfl rfl hc i _ s3 _ H3 _ I3 ff st3 go) fun r s4 ⟨u,hr,h4⟩ => ?_
      subst hr
      refine thn h4 fun _ s5 ⟨x,H5,I5,r5,y5,st5,fr5⟩ => ?_
      have ff5:=fpY (pins':=[(D,{ cls:=.type "list", data:=.seq its.toArray n })]) fr5 (fun p hp b hb => by
        rw [List.mem_singleton.mp hp]; exact (Ne.symm (below b (hlt b hb)).2))
      have I5':=I5.pinned ff5 (T.obj _ _ st5)
      refine thn (hg s H C _ s5 _ H5 x u _ I5' r5 (step x H5 y5)) fun _ s6 ⟨σ6,H6,I6,wk,q6⟩ => ?_
      refine thn (he s H C _ s6 σ6 H6 _ I6 q6) fun y s7 ⟨v,H7,I7,r7,n7⟩ => ?_
      obtain ⟨m',hm,w7⟩:=hNN v H7 n7
      obtain ⟨pD7,nD7,_,_,_⟩:=I7.pin (D,{ cls:=.type "list", data:=.seq its.toArray n }) (List.mem_append_right _ (List.mem_append_left _ List.mem_cons_self))
      refine append_at (n:=n) pD7 (fun h' hs' hD' => ?_) (by rw [List.size_toArray,← rv.length]; exact hsz)
      have st7:tn (i + 1) s7.heap:=T.keep _ _ _ st5 fun b hb o e => (I7.pin (b,o) (List.mem_append_right _ (List.mem_append_right _ (Za5 hb e)))).1
      have fr7:∀ b ∈ fp,H7 b = none:=fun b hb => by
        obtain ⟨o,e,d⟩:=T.obj _ _ st5 b hb
        exact (I7.pin (b,o) (List.mem_append_right _ (List.mem_append_right _ (Za5 hb e)))).2.1
      have I8:Inv Y [] σ6 H7 s7:=I7.pins_of fun p hp => (nomatch hp)
      have I9:Inv Y [] (st0 own.length caps σ) H7 s7:=I8.weak (by rw [I0.len,I8.len]) wk
      have I10:Inv Y [] (st0 own.length caps σ) H7 { s7 with heap:=h' }:=I9.turned (t':=s7.toks) (it:=D) (fun b o hb e => hs'.extBut b o hb e) nD7 hDC (.inr (Nat.le_of_eq hDD)) (fun x c e => Nat.ne_of_lt (celllt x c (sub x c e))) (fun p hp => absurd (show p ∈ ([]:List (Addr × Obj)) from hp) (by simp))
      refine ⟨m',hm,i + 1,ys ++ [v],its ++ [y],n + 1,H7,pinD I10 nD7 ?_,?_,fr7,rv.append (.cons r7 .nil),w7⟩
      · rw [hD',List.push_toArray]
      · exact T.keep _ _ _ st7 fun b hb o e => hs'.extBut b o (below b (hlt b hb)).2 e
  have tn1:tn 0 h₁:=T.keep _ _ _ st fun b _ o e => old b o e
  exact codeAny_compStart_list (loop _ rfl) (T.self _ 0 _ _ _ tn1 (loop _ rfl))
end
end L2
namespace L2
open PySem PySem.Spec PyProof.Rows
section
variable {X:Cx} {tg iter elt:Expr} {scope:Scope} {pos:Pos} {wi:TI} {g:TG} {te:TE} {own:List Str} {caps:List (Nat × Str)}
theorem Zbc (own:List Str) (caps:List (Nat × Str)) (hc:X.calm = true) (hi:PI X tg iter wi) (hg:∀ fp s₀ H₀ C,PG (Za2 X scope (own ++ caps.map (·.2)) s₀ H₀ C fp) tg g) (he:∀ fp s₀ H₀ C,PE (Za2 X scope (own ++ caps.map (·.2)) s₀ H₀ C fp) elt te)
    (hcap:CapsOk X scope caps)
    (hfr:(scope.names.all fun y => !(y.2 == NameKind.free) || (X.env.cells.lookup y.1).isSome) = true:=by rfl)
    (hkind:scope.kind = .function:=by rfl) (hcell:∀ y ∈ scope.names,y.2 ≠ .cell:=by decide +kernel)
    (hnames:∀ y ∈ scope.names,y.2 = .local → scope.names.lookup y.1 = some .local:=by decide +kernel) (hs:∀ x,foldedSetIterable iter X.env x = pure x:=by intro _; rfl) :
    PE X (.ListComp elt [⟨tg,iter,[],0⟩] scope pos) (ZhG own.length caps wi g te):=by
  intro pins s σ H Q I h
  have hfree:=Zds hfr
  have hclos:=Zb8 hfree
  rw [eval_ListComp]
  refine wpAny_comprehension_free (use:=none) rfl hs hclos hkind hnames (thn (hi pins s σ H _ I h) fun v s1 h1 => thn h1 fun itv s2 h2 => ?_)
  obtain ⟨it,fp,tn,J,H2,e,I2,T,st2,f2,hB⟩:=h2
  subst e
  refine Zd0 (RR:=fun acc C => compPost (model X.prog X.w) X.A X.xe none (EP X pins σ Q) acc C) I2 hc T st2 f2 hkind hcell hfree hcap (hg fp) (he fp) hB ?_
  intro D C s' m ys H' hC hDC hn I3 nD nC q
  refine ⟨m,hn,fun h' hs' => ⟨.ref D,upd H' D (.lst ys),?_,rfl,q D nD⟩⟩
  exact I3.turned (t':=s'.toks) (it:=C) (fun b o hb e => hs'.extBut b o hb e) (by rw [Zan (Ne.symm hDC)]; exact nC) (Ne.symm (Nat.ne_of_lt (Nat.lt_of_lt_of_le I2.lt hC))) (.inr (Nat.le_trans I2.sz hC))
    (fun x c e z => by
      obtain ⟨v,o,ho,_⟩:=I2.cell x c e
      rw [z] at ho
      exact absurd (Nat.lt_of_lt_of_le (Heap.lt_size ho) hC) (Nat.lt_irrefl _))
    (fun p hp z => by
      have:=(I2.pin p hp).1
      rw [z] at this
      exact absurd (Nat.lt_of_lt_of_le (Heap.lt_size this) hC) (Nat.lt_irrefl _))
theorem Zb9 {i:Nat} {x:Str} {pos' spos:Pos} (own:List Str) (caps:List (Nat × Str)) (hN:X.N.Nodup) (hx1:X.N[i]? = some x) (hx:X.env.scope.names.lookup x = some .local) (hc:X.calm = true) (hi:PI X tg iter wi)
    (hg:∀ fp s₀ H₀ C,PG (Za2 X scope (own ++ caps.map (·.2)) s₀ H₀ C fp) tg g) (he:∀ fp s₀ H₀ C,PE (Za2 X scope (own ++ caps.map (·.2)) s₀ H₀ C fp) elt te)
    (hcap:CapsOk X scope caps)
    (hfr:(scope.names.all fun y => !(y.2 == NameKind.free) || (X.env.cells.lookup y.1).isSome) = true:=by rfl)
    (hsw:swapsWith (.ListComp elt [⟨tg,iter,[],0⟩] scope pos) (some (.Name x pos')) spos.line X.env = pure true:=by rfl)
    (hkind:scope.kind = .function:=by rfl) (hcell:∀ y ∈ scope.names,y.2 ≠ .cell:=by decide +kernel)
    (hnames:∀ y ∈ scope.names,y.2 = .local → scope.names.lookup y.1 = some .local:=by decide +kernel) (hs:∀ x,foldedSetIterable iter X.env x = pure x:=by intro _; rfl) :
    PS X (.Assign [.Name x pos'] (.ListComp elt [⟨tg,iter,[],0⟩] scope pos) spos) (ZiN (ZhG own.length caps wi g te) (Zb3 i)):=by
  intro pins s σ H D0 I h
  have hfree:=Zds hfr
  have hclos:=Zb8 hfree
  rw [exec_Assign_Name_used _ _ _ _ hsw]
  refine wpAny_bind (wpAny_standAt (wpAny_bind ?_))
  show wpAny _ X.A (do let _ ← comprehension (.ListComp elt [⟨tg,iter,[],0⟩] scope pos) scope X.env _ (newList []) false (eval iter X.env) (some (assign (.Name x pos') X.env))) _ _ s
  refine wpAny_bind (wpAny_mono (wpAny_comprehension_free (use:=some (assign (.Name x pos') X.env)) (Q:=fun _ s' => SP X pins D0 .next s') rfl hs hclos hkind hnames (thn (hi pins s σ H _ I h) fun v s1 h1 => thn h1 fun itv s2 h2 => ?_)) (fun _ s' hq => wpAny_pure (wpAny_pure hq)) fun _ _ e => e)
  obtain ⟨it,fp,tn,J,H2,e,I2,T,st2,f2,hB⟩:=h2
  subst e
  refine Zd0 (RR:=fun acc C => compPost (model X.prog X.w) X.A X.xe (some (assign (.Name x pos') X.env)) (fun _ s' => SP X pins D0 .next s') acc C) I2 hc T st2 f2 hkind hcell hfree hcap (hg fp) (he fp) hB ?_
  intro D C s' m ys H' hC hDC hn I3 nD nC q
  show wpAny _ X.A (assign (.Name x pos') X.env (.ref D)) _ _ _
  have hCl:C ≠ X.env.locals:=Ne.symm (Nat.ne_of_lt (Nat.lt_of_lt_of_le I2.lt hC))
  have hCc:∀ x c,X.env.cells.lookup x = some c → c ≠ C:=fun x c e z => by
    obtain ⟨v,o,ho,_⟩:=I2.cell x c e
    rw [z] at ho
    exact absurd (Nat.lt_of_lt_of_le (Heap.lt_size ho) hC) (Nat.lt_irrefl _)
  refine wpAny_assign_Name (ZdK I3 hN hx1 (.inl hx) (v:=.ref D) rfl (fun s4 I4 ⟨a,sb,ha⟩ => ?_) (.inr hx))
  have hCa:C ≠ a:=by
    rcases ha with e | e
    · rw [e]; exact hCl
    · exact Ne.symm (hCc x a e)
  refine ⟨m,hn.sameBut sb hCa,fun h' hs' => ⟨_,_,?_,q D nD⟩⟩
  exact I4.turned (t':=s4.toks) (it:=C) (fun b o hb e => hs'.extBut b o hb e) (by rw [Zan (Ne.symm hDC)]; exact nC) hCl (.inr (Nat.le_trans I2.sz hC)) hCc
    (fun p hp z => by
      have:=(I2.pin p hp).1
      rw [z] at this
      exact absurd (Nat.lt_of_lt_of_le (Heap.lt_size this) hC) (Nat.lt_irrefl _))
theorem ZgN {x:V} {cs:List (Option V)}:∀ (i:Nat) v,((none:Option V) :: cs)[i]? = some (some v) → ((some x) :: cs)[i]? = some (some v)
  | 0,v,h => by simp at h
  | i + 1,v,h => by simpa using h
theorem ZaE {K:PySem.W.Frag} {a:Addr} {xs:List V} {σ:St} {H:Hp} {QL:List V → Hp → Prop} (Pv:Nat → List V → Hp → Prop) (hz:xs.length ≤ 1000) (h0:Pv 0 [] H) (hl:∀ i ys H,i ≤ xs.length → Pv i ys H → SqL K H a xs)
    (hs:∀ i x ys H,xs[i]? = some x → ys.length = i → Pv i ys H → te (some x :: caps.map fun p => (σ[p.1]?).join) H fun v H' => Pv (i + 1) (ys ++ [v]) H') (hd:∀ ys H,ys.length = xs.length → Pv xs.length ys H → QL ys H) :
    ZcI 1 caps (Zb3 0) te σ (Itl K a) H QL:=by
  have hz':xs.length < sizeLine:=ZbU hz
  refine ⟨fun i m ys H => m = xs.length - i ∧ i ≤ xs.length ∧ ys.length = i ∧ Pv i ys H,⟨_,rfl,Nat.zero_le _,rfl,h0⟩,?_⟩
  rintro i m ys H' ⟨rfl,hi,hy,p⟩
  have q:=hl i ys H' hi p
  refine ⟨by omega,?_⟩
  by_cases hlt:i < xs.length
  · refine .inr ⟨⟨xs,xs[i],q,by simp [hlt]⟩,by omega,fun v H4 => Pv (i + 1) (ys ++ [v]) H4,fun v H4 p' => ⟨xs.length - (i + 1),by omega,rfl,hlt,by rw [List.length_append,hy]; rfl,p'⟩,fun x H2 y => ?_⟩
    obtain ⟨e,y⟩:=y
    subst e
    exact ⟨ZgN,hs i x ys _ (y xs q) hy p⟩
  · have e:i = xs.length:=by omega
    subst e
    exact .inl ⟨⟨xs,q,Nat.le_refl _⟩,hd ys H' hy p⟩
theorem Zfm {lo:Int} {n:Nat} {σ:St} {H:Hp} {QL:List V → Hp → Prop} (Pv:Nat → List V → Hp → Prop) (hz:n ≤ 1000) (h0:Pv 0 [] H)
    (hs:∀ i ys H,i < n → ys.length = i → Pv i ys H → te (some (.int (lo + i)) :: caps.map fun p => (σ[p.1]?).join) H fun v H' => Pv (i + 1) (ys ++ [v]) H') (hd:∀ ys H,ys.length = n → Pv n ys H → QL ys H) :
    ZcI 1 caps (Zb3 0) te σ (Itr lo n) H QL:=by
  have hz':n < sizeLine:=ZbU hz
  refine ⟨fun i m ys H => m = n - i ∧ i ≤ n ∧ ys.length = i ∧ Pv i ys H,⟨_,rfl,Nat.zero_le _,rfl,h0⟩,?_⟩
  rintro i m ys H' ⟨rfl,hi,hy,p⟩
  refine ⟨by omega,?_⟩
  by_cases hlt:i < n
  · refine .inr ⟨hlt,by omega,fun v H4 => Pv (i + 1) (ys ++ [v]) H4,fun v H4 p' => ⟨n - (i + 1),by omega,rfl,hlt,by rw [List.length_append,hy]; rfl,p'⟩,fun x H2 y => ?_⟩
    obtain ⟨e,y⟩:=y
    subst e y
    exact ⟨ZgN,hs i ys _ hlt hy p⟩
  · have e:i = n:=by omega
    subst e
    exact .inl ⟨Nat.le_refl _,hd ys H' hy p⟩
end
end L2
namespace L2
open PySem PySem.Spec PyProof.Rows
structure HasM (P:Program) (w:World) (K:PySem.W.Frag) (mg:Str → Option Value) (base:Heap) (C:Addr) (m:Str) (k:Nat) (ps:List Str) (dvs:List V) (sp:Sp):Prop where
  ex:∃ (f:Addr) (fd:FuncData) (ds:List Value),FnOk P w K mg base CX0 k f fd ps sp ∧ Meth K C m f ∧ Binds K fd ps ds ∧ Vals dvs ds
theorem HasM.mono {P:Program} {w:World} {K:PySem.W.Frag} {mg:Str → Option Value} {base:Heap} {C:Addr} {m:Str} {j k:Nat} {ps:List Str} {dvs:List V} {sp:Sp} (h:HasM P w K mg base C m j ps dvs sp) (e:j ≤ k):HasM P w K mg base C m k ps dvs sp :=
  let ⟨f,fd,ds,a,b,c,d⟩:=h.ex
  ⟨f,fd,ds,a.mono e,b,c,d⟩
def Zir (P:Program) (w:World) (K:PySem.W.Frag) (mg:Str → Option Value) (base:Heap) (m:Str) (k:Nat) (ta:TE) (t:TA):TE:=fun σ H Q => ta σ H fun x H1 => ∃ a C dx fs ps dvs sp,x = .ref a ∧ H1 a = some (.ins C dx fs) ∧ Cls K C ∧ HasM P w K mg base C m k ps dvs sp ∧ fs.lookup m = none ∧
  t σ H1 fun vs H2 => sp (x :: (vs ++ dvs)) H2 Q E0
section
variable {X:Cx} {k:Nat} {m x:Str} {p pos apos:Pos} {e o:Expr} {es:List Expr} {ta:TE} {t:TA}
theorem ZgO {pl:Sem Bool} (he:PE X o ta) (hr:Room k X.A) (ha:PA X (e :: es) t)
    (hst:starEach (e :: es) X.env = (false,eval e X.env) :: starEach es X.env:=by rfl) (hpl:(backTo pos (starEach es X.env)).any (·.1) = false:=by rfl)
    (ht:eval (.Call (.Attribute o m apos) (e :: es) [] pos) X.env = (do
      let ov ← eval o X.env
      standAt apos.atName
      let (f,first) ← holding [ov] (getMethod ov m pl)
      callWith pos f first (backTo pos (starEach (e :: es) X.env)) (backToKw pos (keywordEach [] X.env))):=by rfl) :
    PE X (.Call (.Attribute o m apos) (e :: es) [] pos) (Zir X.prog X.w X.K X.mg X.base m k ta t):=by
  intro pins s σ H Q I h
  refine PySem.W.methodCall_KW (pl:=pl) (thn (he pins s σ H _ I h) fun u s1 ⟨x,H1,I1,rx,a,C,dx,fs,ps,dvs,sp,ex,ea,c,hM,l,q⟩ => ?_) ht
  subst ex
  obtain rfl:u = Value.ref a:=rx
  obtain ⟨f,fd,ds,F,hm,hb,hd⟩:=hM.ex
  refine Zfh I1 ea c hm l ?_
  refine PySem.W.callWith_K (first:=[.ref a]) (h₀:=X.base) I.ok.mod.kin hm.kp (thn (ha pos pins s1 σ H1 _ I1 q) fun us s2 ⟨vs,H2,I2,r,q2⟩ => ⟨I2.kIn,?_⟩) hst hpl
  exact Zhb (us:=.ref a :: us) (vs:=.ref a :: vs) F hr hb hd ZhD I2 (.cons rfl r) q2
structure HasI (P:Program) (w:World) (K:PySem.W.Frag) (mg:Str → Option Value) (base:Heap) (C:Addr) (k:Nat) (ps:List Str) (sp:Sp):Prop where
  ex:∃ (f:Addr) (fd:FuncData),Mk K C f ∧ FnOk P w K mg base CX0 k f fd ps sp ∧ Binds K fd ps []
theorem ZgP {C:Addr} {ps:List Str} {sp:Sp} (h:HasI X.prog X.w X.K X.mg X.base C k ps sp) (hr:Room (k + 1) X.A) (hg:Gl X x) (hm:X.mg x = some (.ref C)) (ha:PA X (e :: es) t) (hdb:(x == ("__debug__" : Str)) = false:=by decide)
    (he:starEach (e :: es) X.env = (false,eval e X.env) :: starEach es X.env:=by rfl) (hpl:(backTo pos (starEach es X.env)).any (·.1) = false:=by rfl):PE X (.Call (.Name x p) (e :: es) [] pos) (Zin C sp [] E0 t):=by
  obtain ⟨f,fd,M,F,b⟩:=h.ex
  exact ZhA M F hr hg hm b .nil ZhD ha hdb he hpl
structure HereM (K:PySem.W.Frag) (C:Addr) (m qual:Str) (st:Stmt):Prop where
  ex:∃ (f:Addr) (fd:FuncData),Fun K m qual st f fd ∧ Meth K C m f
theorem HereM.hasM {P:Program} {w:World} {K:PySem.W.Frag} {mg:Str → Option Value} {base:Heap} {C:Addr} {m qual:Str} {st:Stmt} {k:Nat} {ps:List Str} {sp:Sp} (h:HereM K C m qual st)
    (b:∀ f fd,Fun K m qual st f fd → Binds K fd ps []) (ok:∀ f fd,Fun K m qual st f fd → FnOk P w K mg base CX0 k f fd ps sp):HasM P w K mg base C m k ps [] sp :=
  let ⟨f,fd,F,M⟩:=h.ex
  ⟨f,fd,[],ok f fd F,M,b f fd F,.nil⟩
theorem hereM_mk {K:PySem.W.Frag} {C:Addr} {m qual:Str} {st:Stmt} {f:Addr} {oc:Value} {od an:Option Addr} {osl:Array (Option Value)} {kV doc pm cdv ct:Value} (a:PySem.W.findIn K (.ref C) m = some (some (.ref f))) (i:PySem.W.isFn K (.ref f) = true)
    (l:K.lookup f = some ⟨oc,od,.func (PySem.W.fnOf m qual (Zbm st) (ZaU st) (Zag st) .none kV doc pm an cdv ct),osl⟩)
    (c:PySem.W.codeIn K cdv qual = true) (k:PySem.W.keepIn K (.ref f) = true):HereM K C m qual st:=⟨f,_,Zf3 l c k,a,i,k⟩
structure HereI (K:PySem.W.Frag) (C:Addr) (qual:Str) (st:Stmt):Prop where
  ex:∃ (f:Addr) (fd:FuncData),Fun K "__init__" qual st f fd ∧ Mk K C f
theorem HereI.hasI {P:Program} {w:World} {K:PySem.W.Frag} {mg:Str → Option Value} {base:Heap} {C:Addr} {qual:Str} {st:Stmt} {k:Nat} {ps:List Str} {sp:Sp} (h:HereI K C qual st)
    (b:∀ f fd,Fun K "__init__" qual st f fd → Binds K fd ps []) (ok:∀ f fd,Fun K "__init__" qual st f fd → FnOk P w K mg base CX0 k f fd ps sp):HasI P w K mg base C k ps sp :=
  let ⟨f,fd,F,M⟩:=h.ex
  ⟨f,fd,M,ok f fd F,b f fd F⟩
theorem hereI_mk {K:PySem.W.Frag} {C:Addr} {qual:Str} {st:Stmt} {f:Addr} {oc:Value} {od an:Option Addr} {osl:Array (Option Value)} {kV doc pm cdv ct:Value} (mk:PySem.W.makesIn K C = true) (a:PySem.W.findIn K (.ref C) "__init__" = some (some (.ref f))) (i:PySem.W.isFn K (.ref f) = true)
    (kc:PySem.W.keepIn K (.ref C) = true) (l:K.lookup f = some ⟨oc,od,.func (PySem.W.fnOf "__init__" qual (Zbm st) (ZaU st) (Zag st) .none kV doc pm an cdv ct),osl⟩)
    (c:PySem.W.codeIn K cdv qual = true) (k:PySem.W.keepIn K (.ref f) = true):HereI K C qual st:=⟨f,_,Zf3 l c k,mk,a,i,kc⟩
structure Mk0 (K:PySem.W.Frag) (C:Addr):Prop where
  makes:PySem.W.makesIn K C = true
  init:PySem.W.findIn K (.ref C) "__init__" = some (some (.builtin "object.__init__"))
  kp:PySem.W.keepIn K (.ref C) = true
def ZhH (C:Addr):TE:=fun _ H Q => ∀ x dx,H x = none → H dx = none → dx ≠ x → Q (.ref x) (upd (upd H dx (.own x)) x (.ins C dx []))
theorem Zfn {C:Addr} {pins:List (Addr × Obj)} {σ:St} {H:Hp} {s:Shared} {Q:VK} (M:Mk0 X.K C) (I:Inv X pins σ H s)
    (h:∀ x dx,H x = none → H dx = none → dx ≠ x → Q (.ref x) (upd (upd H dx (.own x)) x (.ins C dx []))):wpAny (model X.prog X.w) X.A (call (.ref C) []) (EP X pins σ Q) X.xe s:=by
  have hq:=h (s.heap.objs.size + 1) s.heap.objs.size (I.hok.fresh (Nat.le_succ _)) (I.hok.fresh (Nat.le_refl _)) (Nat.ne_of_lt (Nat.lt_succ_self _))
  have I2:=Inv.made (C:=C) I
  refine wpAny_call (ZfT I.kIn M.makes M.init (fun self => PySem.W.Looks.of_pure (PySem.W.oi_bind self)) ?_)
  have Y:=PySem.W.makes_of (M:=model X.prog X.w) I.kIn M.makes
  obtain ⟨hh,g,d,t,os⟩:=s
  have t1:PySem.W.Looks (model X.prog X.w) ((hh.push PySem.W.emptyDict).push (PySem.W.instObj C hh.objs.size)) (typeOf (.ref (hh.objs.size + 1))) (.ref C) :=
    (PySem.W.Looks.ld (o:=PySem.W.instObj C hh.objs.size) (by have:=Heap.get?_push_size (hh.push PySem.W.emptyDict) (o:=PySem.W.instObj C hh.objs.size) rfl; rwa [Heap.size_push] at this)).andThen .now
  have t2:PySem.W.Looks (model X.prog X.w) ((hh.push PySem.W.emptyDict).push (PySem.W.instObj C hh.objs.size)) (isInstance (.ref (hh.objs.size + 1)) (.type "object")) true:=t1.andThen (Y.top.keeps fun b o e => Heap.get?_push_of_some _ (Heap.get?_push_of_some _ e))
  refine codeAny_call_builtin PySem.W.oi_plain PySem.W.entry_oi (@PySem.W.check_slot (model X.prog X.w) _ _ _ "object.__init__" "object" "__init__" (.ref (hh.objs.size + 1)) [] [] _ PySem.W.oi_kind PySem.W.oi_split t2 (PySem.W.oi_args (.ref (hh.objs.size + 1))) ?_)
  rw [PySem.W.oi_run]
  refine wpAny_pure (And.intro rfl ?_)
  exact ⟨V.ref (hh.objs.size + 1),_,I2,rfl,hq⟩
theorem Zf7 {C:Addr} (M:Mk0 X.K C) (hg:Gl X x) (hm:X.mg x = some (.ref C)) (hdb:(x == ("__debug__" : Str)) = false:=by decide):PE X (.Call (.Name x p) [] [] pos) (ZhH C):=by
  intro pins s σ H Q I h
  refine wpAny_Call_Name_kw (ZbJ I hg hm ?_ hdb)
  exact PySem.W.callWith_K0 I.kIn M.kp (Zfn M I h)
def ZjE (K:PySem.W.Frag):R2:=fun x y H Q => ∃ p q a b c d,x = .ref p ∧ y = .ref q ∧ SqT K H p [.int a,.int b] ∧ SqT K H q [.int c,.int d] ∧ Q (.bl (decide (a = c ∧ b = d))) H
theorem Zis {k:Nat} (hr:Room k X.A):OpR X (compareOp .Eq) (ZjE X.K):=by
  intro pins s σ H x y v u Q I rx ry h
  obtain ⟨p,q,a,b,c,d,rfl,rfl,hp,hq,k⟩:=h
  cases rx
  cases ry
  obtain ⟨its,r1,t1,_⟩:=I.tuple hp
  obtain ⟨jts,r2,t2,_⟩:=I.tuple hq
  cases r1 with
  | cons e1 r1 =>
  cases r1 with
  | cons e2 r1 =>
  cases r1
  cases r2 with
  | cons f1 r2 =>
  cases r2 with
  | cons f2 r2 =>
  cases r2
  obtain ⟨_,rfl⟩:=e1
  obtain ⟨_,rfl⟩:=e2
  obtain ⟨_,rfl⟩:=f1
  obtain ⟨_,rfl⟩:=f2
  refine SeqAt.eq_tupleAt (e:=fun j => if j = 0 then a == c else b == d) t1 t2 hr.units0 (fun j h1 h2 => ?_) ?_
  · match j,h1,h2 with
    | 0,_,_ => exact SeqAt.EqAt.int_int a _ c _
    | 1,_,_ => exact SeqAt.EqAt.int_int b _ d _
    | n + 2,h1,_ => exact absurd h1 (by simp)
  · refine ⟨.bl (decide (a = c ∧ b = d)),H,I,?_,k⟩
    show Value.bool _ = Value.bool _
    congr 1
    by_cases h1:a = c <;> by_cases h2:b = d <;> simp [h1,h2,List.range,List.range.loop]
end
end L2
namespace M1
theorem fmod_gcd (a b:Int):Int.gcd b (a.fmod b) = Int.gcd a b:=by
  have h:a.fmod b = a - b * a.fdiv b:=Int.fmod_def a b
  rw [h,Int.gcd_comm a b]
  have:a - b * a.fdiv b = a + b * (-(a.fdiv b)):=by rw [Int.mul_neg]; omega
  rw [this]
  simp
theorem Zit (i:Int):(if i < 0 then -i else i) = (i.natAbs:Int):=by split <;> omega
theorem gcd_zero' (a:Int):(Int.gcd a 0:Int) = (if a < 0 then -a else a):=by
  rw [Zit,Int.gcd_zero_right]
theorem ZcJ (a:Int) {b:Int} (h:b < 0):a.fmod b ≤ 0 ∧ b < a.fmod b:=by
  have e:=Int.neg_fmod_neg a b
  have h1:=Int.fmod_nonneg_of_pos (-a) (b:=-b) (by omega)
  have h2:=Int.fmod_lt_of_pos (-a) (b:=-b) (by omega)
  omega
theorem fmod_lt (a:Int) {b:Int} (h:b ≠ 0):(a.fmod b).natAbs < b.natAbs:=by
  rcases Int.lt_or_gt_of_ne h with h | h
  · have h1:=ZcJ a h
    omega
  · have h1:=Int.fmod_nonneg_of_pos a h
    have h2:=Int.fmod_lt_of_pos a h
    omega
theorem Zd1 (a:Int) {b:Int} (h:b ≠ 0):(0 ≤ b ∧ 0 ≤ a.fmod b) ∨ (b ≤ 0 ∧ a.fmod b ≤ 0):=by
  rcases Int.lt_or_gt_of_ne h with h | h
  · exact .inr ⟨by omega,(ZcJ a h).1⟩
  · exact .inl ⟨by omega,Int.fmod_nonneg_of_pos a h⟩
structure Sh (x y a u1 v1 b u2 v2:Int):Prop where
  ea:a = u1 * x + v1 * y
  eb:b = u2 * x + v2 * y
  g:Int.gcd a b = Int.gcd x y
  st:(a = x ∧ u1 = 1 ∧ v1 = 0 ∧ b = y ∧ u2 = 0 ∧ v2 = 1) ∨
    (a ≠ 0 ∧ ((0 ≤ a ∧ 0 ≤ b) ∨ (a ≤ 0 ∧ b ≤ 0)) ∧ a.natAbs ≤ y.natAbs ∧ b.natAbs ≤ y.natAbs ∧ u1.natAbs ≤ y.natAbs ∧ v1.natAbs ≤ x.natAbs + 2 * y.natAbs ∧
      u2.natAbs * a.natAbs + u1.natAbs * b.natAbs ≤ y.natAbs ∧ v2.natAbs * a.natAbs + v1.natAbs * b.natAbs ≤ x.natAbs + 2 * y.natAbs)
theorem Sh.start (x y:Int):Sh x y x 1 0 y 0 1:=⟨by omega,by omega,rfl,.inl ⟨rfl,rfl,rfl,rfl,rfl,rfl⟩⟩
theorem ZbD {a b c:Nat} (h:a * b ≤ c) (hb:b ≠ 0):a ≤ c:=Nat.le_trans (Nat.le_mul_of_pos_right a (Nat.pos_of_ne_zero hb)) h
theorem Zi3 {X Y:Nat}:X ≤ X + 2 * Y + 1:=by omega
theorem Zf8 {X Y:Nat}:Y ≤ X + 2 * Y + 1:=by omega
theorem Ziu {X Y:Nat}:1 ≤ X + 2 * Y + 1:=by omega
theorem Zi4 {X Y:Nat} (h:1 ≤ Y):1 ≤ X + 2 * Y:=by omega
theorem Sh.bound {x y a u1 v1 b u2 v2:Int} (h:Sh x y a u1 v1 b u2 v2) :
    a.natAbs ≤ x.natAbs + 2 * y.natAbs + 1 ∧ u1.natAbs ≤ x.natAbs + 2 * y.natAbs + 1 ∧ v1.natAbs ≤ x.natAbs + 2 * y.natAbs + 1 ∧
    b.natAbs ≤ x.natAbs + 2 * y.natAbs + 1 ∧ u2.natAbs ≤ x.natAbs + 2 * y.natAbs + 1 ∧ v2.natAbs ≤ x.natAbs + 2 * y.natAbs + 1:=by
  rcases h.st with ⟨rfl,rfl,rfl,rfl,rfl,rfl⟩ | ⟨ha,_,h1,h2,h3,h4,h5,h6⟩
  · exact ⟨Zi3,Ziu,Nat.zero_le _,Zf8,Nat.zero_le _,Ziu⟩
  · have ha':a.natAbs ≠ 0:=Int.natAbs_ne_zero.mpr ha
    have k1:u2.natAbs ≤ y.natAbs:=ZbD (b:=a.natAbs) (Nat.le_trans (Nat.le_add_right _ _) h5) ha'
    have k2:v2.natAbs ≤ x.natAbs + 2 * y.natAbs:=ZbD (b:=a.natAbs) (Nat.le_trans (Nat.le_add_right _ _) h6) ha'
    exact ⟨Nat.le_trans h1 Zf8,Nat.le_trans h3 Zf8,Nat.le_succ_of_le h4,Nat.le_trans h2 Zf8,Nat.le_trans k1 Zf8,Nat.le_succ_of_le k2⟩
theorem ZhI (a b:Int):a - a.fdiv b * b = a.fmod b:=by rw [Int.fmod_def,Int.mul_comm]
theorem ZhJ {a b:Int} (h:(0 ≤ a ∧ 0 ≤ b) ∨ (a ≤ 0 ∧ b ≤ 0)):0 ≤ a.fdiv b:=by
  rcases h with ⟨h1,h2⟩ | ⟨h1,h2⟩
  · exact Int.fdiv_nonneg h1 h2
  · rw [← Int.neg_fdiv_neg]; exact Int.fdiv_nonneg (by omega) (by omega)
theorem Zf9 {a b:Int} (hb:b ≠ 0) (h:(0 ≤ a ∧ 0 ≤ b) ∨ (a ≤ 0 ∧ b ≤ 0)):(a.fdiv b).natAbs * b.natAbs + (a.fmod b).natAbs = a.natAbs:=by
  have e:=Int.mul_fdiv_add_fmod a b
  have q:=ZhJ h
  have s:=Zd1 a hb
  rw [← Int.natAbs_mul,Int.mul_comm]
  have pq:(0 ≤ b ∧ 0 ≤ b * a.fdiv b) ∨ (b ≤ 0 ∧ b * a.fdiv b ≤ 0):=by
    rcases h with ⟨h1,h2⟩ | ⟨h1,h2⟩
    · exact .inl ⟨h2,Int.mul_nonneg h2 q⟩
    · refine .inr ⟨h2,?_⟩
      have:=Int.mul_nonneg (show 0 ≤ -b by omega) q
      rw [Int.neg_mul] at this
      omega
  rcases pq with ⟨b1,p1⟩ | ⟨b1,p1⟩
  · rcases s with ⟨_,s1⟩ | ⟨b2,_⟩
    · rw [← Int.natAbs_add_of_nonneg p1 s1,e]
    · exact absurd (Int.le_antisymm b2 b1) hb
  · rcases s with ⟨b2,_⟩ | ⟨_,s1⟩
    · exact absurd (Int.le_antisymm b1 b2) hb
    · rw [← Int.natAbs_add_of_nonpos p1 s1,e]
theorem Zdb (u q v:Int):(u - q * v).natAbs ≤ u.natAbs + q.natAbs * v.natAbs:=by
  have:=Int.natAbs_sub_le u (q * v)
  rw [Int.natAbs_mul] at this
  exact this
theorem ZeX {u1 u2 q a b r u C:Nat} (hu:u ≤ u1 + q * u2) (ha:q * b + r = a) (h:u2 * a + u1 * b ≤ C):u * b + u2 * r ≤ C:=by
  have h1:u * b ≤ (u1 + q * u2) * b:=Nat.mul_le_mul_right b hu
  have h2:(u1 + q * u2) * b = u1 * b + u2 * (q * b):=by
    rw [Nat.add_mul,Nat.mul_comm q u2,Nat.mul_assoc]
  have h3:u2 * a = u2 * (q * b) + u2 * r:=by rw [← ha,Nat.mul_add]
  omega
theorem ZgQ {x y a b q u1 v1 u2 v2:Int} (ea:a = u1 * x + v1 * y) (eb:b = u2 * x + v2 * y):a - q * b = (u1 - q * u2) * x + (v1 - q * v2) * y:=by
  rw [ea,eb,Int.sub_mul,Int.sub_mul,Int.mul_add,Int.mul_assoc,Int.mul_assoc]
  omega
theorem Ziv {M A R B:Nat} (h:M ≤ A + R) (l:R < B):M + R ≤ A + 2 * B:=by omega
theorem Sh.turn {x y a u1 v1 b u2 v2:Int} (h:Sh x y a u1 v1 b u2 v2) (hb:b ≠ 0) :
    Sh x y b u2 v2 (a - a.fdiv b * b) (u1 - a.fdiv b * u2) (v1 - a.fdiv b * v2):=by
  have er:=ZhI a b
  refine ⟨h.eb,ZgQ h.ea h.eb,?_,.inr ?_⟩
  · rw [er,fmod_gcd]; exact h.g
  · have lt:=fmod_lt a hb
    have sg:=Zd1 a hb
    rw [er]
    refine ⟨hb,sg,?_⟩
    rcases h.st with ⟨rfl,rfl,rfl,rfl,rfl,rfl⟩ | ⟨ha,hs,h1,h2,h3,h4,h5,h6⟩
    · have e0:(1:Int) - a.fdiv b * 0 = 1:=by omega
      have e1:(0:Int) - a.fdiv b * 1 = -(a.fdiv b):=by omega
      rw [e0,e1,Int.natAbs_neg]
      refine ⟨Nat.le_refl _,Nat.le_of_lt lt,Nat.zero_le _,Zi4 (Nat.pos_of_ne_zero (Int.natAbs_ne_zero.mpr hb)),?_,?_⟩
      · show 1 * b.natAbs + 0 * (a.fmod b).natAbs ≤ b.natAbs
        rw [Nat.one_mul,Nat.zero_mul]
        exact Nat.le_refl _
      · show (a.fdiv b).natAbs * b.natAbs + 1 * (a.fmod b).natAbs ≤ a.natAbs + 2 * b.natAbs
        have e:=Int.mul_fdiv_add_fmod a b
        have k:(b * a.fdiv b).natAbs = b.natAbs * (a.fdiv b).natAbs:=Int.natAbs_mul ..
        have z:b * a.fdiv b = a - a.fmod b:=by omega
        rw [Nat.mul_comm,← k,z,Nat.one_mul]
        exact Ziv (Int.natAbs_sub_le a (a.fmod b)) lt
    · have sp:=Zf9 hb hs
      have ha':a.natAbs ≠ 0:=Int.natAbs_ne_zero.mpr ha
      have k1:u2.natAbs ≤ y.natAbs:=ZbD (b:=a.natAbs) (Nat.le_trans (Nat.le_add_right _ _) h5) ha'
      have k2:v2.natAbs ≤ x.natAbs + 2 * y.natAbs:=ZbD (b:=a.natAbs) (Nat.le_trans (Nat.le_add_right _ _) h6) ha'
      exact ⟨h2,Nat.le_trans (Nat.le_of_lt lt) h2,k1,k2,ZeX (Zdb ..) sp h5,ZeX (Zdb ..) sp h6⟩
theorem Sh.done {x y a u1 v1 u2 v2:Int} (h:Sh x y a u1 v1 0 u2 v2):(a.natAbs:Int) = Int.gcd x y ∧ a = x * u1 + y * v1:=by
  have g:=h.g
  rw [Int.gcd_zero_right] at g
  refine ⟨by rw [g],?_⟩
  rw [Int.mul_comm x,Int.mul_comm y]; exact h.ea
end M1
namespace M2
def Prm (n:Int):Prop:=2 ≤ n ∧ ∀ d:Int,2 ≤ d → d * d ≤ n → ¬ d ∣ n
theorem Zex {a b:Int} (ha:0 ≤ a) (h:a ≤ b):a * a ≤ b * b:=Int.mul_le_mul h h ha (by omega)
theorem ZhK:Prm 2:=⟨by omega,fun d h1 h2 => by have:=Zex (a:=2) (by omega) h1; omega⟩
theorem ZgR {n:Int} (h:2 ≤ n) (h2:n ≠ 2) (e:n % 2 = 0):¬ Prm n:=fun p => p.2 2 (by omega) (by omega) (Int.dvd_of_emod_eq_zero e)
theorem prm_even {n:Int} (h:2 ≤ n) (e:n % 2 = 0):Prm n ↔ n = 2:=by
  constructor
  · intro p
    refine Decidable.byContradiction fun z => ZgR h z e p
  · rintro rfl
    exact ZhK
def No (n t:Int):Prop:=∀ d:Int,2 ≤ d → d < t → ¬ d ∣ n
theorem No.odd {n:Int} (e:¬ n % 2 = 0):No n 3:=fun d h1 h2 hd => by
  have:d = 2:=by omega
  subst this
  exact e (Int.emod_eq_zero_of_dvd hd)
theorem No.two {n:Int}:No n 2:=fun d h1 h2 => by omega
theorem No.one {n t:Int} (h:No n t) (hn:¬ t ∣ n):No n (t + 1):=fun d h1 h2 => by
  rcases (by omega:d < t ∨ d = t) with z | z
  · exact h d h1 z
  · rw [z]; exact hn
theorem No.next {n t:Int} (h:No n t) (e:¬ n % 2 = 0) (ho:t % 2 = 1) (hn:¬ t ∣ n):No n (t + 2):=fun d h1 h2 hd => by
  rcases (by omega:d < t ∨ d = t ∨ d = t + 1) with z | z | z
  · exact h d h1 z hd
  · rw [z] at hd; exact hn hd
  · have h2d:(2:Int) ∣ d:=Int.dvd_of_emod_eq_zero (by omega)
    exact e (Int.emod_eq_zero_of_dvd (Int.dvd_trans h2d hd))
theorem No.done {n t:Int} (h:No n t) (h2:2 ≤ n) (ht:0 ≤ t) (hl:¬ t * t ≤ n):Prm n:=⟨h2,fun d h1 hd => h d h1 (by
  refine Int.lt_of_not_ge fun z => hl ?_
  exact Int.le_trans (Zex ht z) hd)⟩
theorem found {n t:Int} (ht:2 ≤ t) (hl:t * t ≤ n) (hd:t ∣ n):¬ Prm n:=fun p => p.2 t ht hl hd
theorem le_of_sq {n t:Int} (ht:2 ≤ t) (hl:t * t ≤ n):t + t ≤ n:=by
  have:t * 2 ≤ t * t:=Int.mul_le_mul_of_nonneg_left ht (by omega)
  omega
theorem fmod_dvd {n t:Int} (ht:0 < t):n.fmod t = 0 ↔ t ∣ n:=by
  rw [Int.fmod_eq_emod_of_nonneg n (by omega)]
  exact ⟨Int.dvd_of_emod_eq_zero,Int.emod_eq_zero_of_dvd⟩
theorem Zga:∀ d:Nat,d < 1000 → 2 ≤ d → 999983 % d ≠ 0:=by decide +kernel
theorem prm_big:Prm 999983:=by
  refine ⟨by omega,fun d h1 h2 hd => ?_⟩
  have hl:d < 1000:=by
    refine Int.lt_of_not_ge fun z => ?_
    have:=Zex (a:=1000) (by omega) z
    omega
  have e:=Int.emod_eq_zero_of_dvd hd
  refine Zga d.toNat (by omega) (by omega) ?_
  have ed:d = (d.toNat:Int):=by omega
  rw [ed] at e
  have e2:((999983 % d.toNat:Nat):Int) = 0:=by rw [Int.natCast_emod]; exact e
  exact Int.natCast_eq_zero.mp e2
end M2
namespace M3
theorem Ziw {a b:Int} (hb:Int.gcd a b ≠ 0):∃ x y:Int,a = (Int.gcd a b:Int) * x ∧ b = (Int.gcd a b:Int) * y ∧ Int.gcd x y = 1:=by
  obtain ⟨x,hx⟩:=Int.gcd_dvd_left a b
  obtain ⟨y,hy⟩:=Int.gcd_dvd_right a b
  refine ⟨x,y,hx,hy,?_⟩
  have e:Int.gcd ((Int.gcd a b:Int) * x) ((Int.gcd a b:Int) * y) = Int.gcd a b * Int.gcd x y:=by
    rw [Int.gcd_mul_left]
    simp
  rw [← hx,← hy] at e
  have e2:Int.gcd a b * Int.gcd x y = Int.gcd a b * 1:=by omega
  exact Nat.eq_of_mul_eq_mul_left (Nat.pos_of_ne_zero hb) e2
theorem gcd_ne {a b:Int} (h:b ≠ 0):Int.gcd a b ≠ 0:=fun z => h (Int.gcd_eq_zero_iff.mp z).2
theorem ZeY {g x:Int} (hg:g ≠ 0):(g * x).fdiv g = x:=Int.mul_fdiv_cancel_left x hg
theorem ZhL {g x:Int} (hg:0 < g) (h:0 < g * x):0 < x:=by
  refine Int.lt_of_not_ge fun z => ?_
  have:=Int.mul_nonneg (Int.le_of_lt hg) (show 0 ≤ -x by omega)
  rw [Int.mul_neg] at this
  omega
theorem low {t b:Int} (hb:0 < b):Int.gcd (t.fdiv (Int.gcd t b)) (b.fdiv (Int.gcd t b)) = 1 ∧ 0 < b.fdiv (Int.gcd t b) ∧ t.fdiv (Int.gcd t b) * b = t * b.fdiv (Int.gcd t b) ∧
    (t.fdiv (Int.gcd t b)).natAbs ≤ t.natAbs ∧ (b.fdiv (Int.gcd t b)).natAbs ≤ b.natAbs:=by
  have hg:=gcd_ne (a:=t) (b:=b) (by omega)
  obtain ⟨x,y,hx,hy,c⟩:=Ziw hg
  generalize Int.gcd t b = g at *
  have hg':(g:Int) ≠ 0:=by omega
  subst hx hy
  rw [ZeY hg',ZeY hg']
  have yp:=ZhL (show (0:Int) < g by omega) hb
  refine ⟨c,yp,by ac_rfl,?_,?_⟩
  · rw [Int.natAbs_mul]; exact Nat.le_mul_of_pos_left _ (by omega)
  · rw [Int.natAbs_mul]; exact Nat.le_mul_of_pos_left _ (by omega)
end M3
namespace L2
open PySem PySem.Spec PyProof.Rows
structure XCls (K:PySem.W.Frag) (C:Addr):Prop where
  ga:PySem.W.findIn K (.ref C) "__getattribute__" = some (some (.builtin "BaseException.__getattribute__"))
  ha:PySem.W.findIn K (.ref C) "__getattr__" = some none
  cl:PySem.W.findIn K (.ref C) "__class__" = some (some (.builtin "object.__class__"))
  hn:PySem.W.specialIn K (.builtin "object.__class__") "__get__" = some (some (.builtin "getset_descriptor.__get__"))
  tk:PySem.W.takesIn K (.builtin "object.__class__") = some true
  ob:PySem.W.mroIn K C (.type "object") = some true
  be:PySem.W.mroIn K C (.type "BaseException") = some true
  hd:PySem.W.hasDictIn K C = true
section
variable {prog:Program} {w:World} {A:Around} {E:Value → Shared → Prop} {s:Shared} {K:PySem.W.Frag} {x C:Addr} {ox:Obj} {od:Option Obj}
theorem Zey {K:PySem.W.Frag} {C:Addr} {od:Option Obj} {name:Str} {a g:Value} (hc:(PySem.W.clsIn K C).isSome = true) (ha:PySem.W.findIn K (.ref C) name = some (some a)) (hg:PySem.W.specialIn K a "__get__" = some (some g)) (ht:PySem.W.takesIn K a = some true) :
    PySem.W.findObj K C od name = some (.bind g a):=by
  obtain ⟨cd,hc⟩:=Option.isSome_iff_exists.mp hc
  unfold PySem.W.findObj
  rw [hc,Option.bind_some,ha,Option.bind_some]
  simp [hg,ht]
theorem Zgb (c:XCls K C) {tk:Tok} {R:Result → Shared → Prop} (X:K.In s.heap) (I:PySem.W.InstAt s.heap x ox C od) (h:R (.ok (.ret (.ref C))) s) :
    codeAny (model prog w) A (.call (.builtin "BaseException.__getattribute__") ⟨[.ref x,.str "__class__" tk],[]⟩) R s:=by
  have hf:PySem.W.findObj K C od "__class__" = some (.bind (.builtin "getset_descriptor.__get__") (.builtin "object.__class__")):=Zey (by obtain ⟨cd,hc,_⟩:=PySem.W.any_some c.hd; rw [hc]; rfl) c.cl c.hn c.tk
  obtain ⟨hh,gg,d,t,os⟩:=s
  have L0:=I.type (M:=model prog w)
  have LF:=PySem.W.looks_find (M:=model prog w) X I hf
  have LB:PySem.W.Looks (model prog w) hh (isInstance (.ref x) (.type "BaseException")) true:=L0.andThen (PySem.W.looks_mroIn X c.be)
  have LG:=PySem.W.looks_mroIn (M:=model prog w) X c.be
  refine codeAny_call_builtin F.excAttr_ValueError.ga.plain F.entry_bexc_ga ?_
  have hk:builtinKind "BaseException.__getattribute__" = some .slot:=by decide +kernel
  have hsplit:splitId "BaseException.__getattribute__" = some ("BaseException", "__getattribute__"):=by decide +kernel
  have ha:=F.args_bexc_ga (.ref x) (.str "__class__" tk)
  simp only [checkBuiltinCall,hk,hsplit]
  refine wpAny_bind (LB.at ?_)
  simp only [Bool.not_true,Bool.false_eq_true,if_false]
  refine wpAny_of_eq ha ?_
  refine wpAny_bind (wpAny_pure (wpAny_bind (wpAny_pure (wpAny_bind (L0.at (wpAny_bind (LF.at ?_)))))))
  show wpAny _ _ (holding [Value.builtin "object.__class__"] (call (.builtin "getset_descriptor.__get__") [.builtin "object.__class__", .ref x,.ref C]) >>= ret) _ _ _
  exact wpAny_bind (wpAny_holding (wpAny_call (PySem.W.class_get (s:=⟨hh,gg,d,t,os⟩) X I c.ob (wpAny_pure h))))
theorem Zgc (c:XCls K C) {Q:Option Value → Shared → Prop} (X:K.In s.heap) (I:PySem.W.InstAt s.heap x ox C od) (h:Q (some (.ref C)) { s with toks:=s.toks + 1 }):wpAny (model prog w) A (getAttr? (.ref x) "__class__") Q E s:=by
  have L0:=I.type (M:=model prog w)
  have L1:=PySem.W.looks_findIn (M:=model prog w) X c.ga
  have L3:=PySem.W.looks_findIn (M:=model prog w) X c.ha
  obtain ⟨hh,g,d,t,os⟩:=s
  unfold getAttr? getAttrBy? getAttrBy
  refine wpAny_bind (wpAny_mkText (wpAny_bind (wpAny_attempt (wpAny_holding (wpAny_bind (L0.at (wpAny_bind (L1.at ?_))))))))
  show wpAny _ _ (getAttrByItsOwn _ _ _ _ _ _) _ _ _
  unfold getAttrByItsOwn
  refine wpAny_bind (L3.at ?_)
  refine wpAny_bind (wpAny_attempt (wpAny_holding ?_))
  show wpAny _ _ (boundAndCalled _ _ _) _ _ _
  unfold boundAndCalled
  refine wpAny_bind (wpAny_of_eq (F.excAttr_ValueError.ga.bind (.ref x)) ?_)
  refine wpAny_call (Zgb (s:=⟨hh,g,d,t + 1,os⟩) c X I ?_)
  exact PySem.W.handed_on rfl (wpAny_pure h)
theorem ZgS (c:XCls K C):PySem.W.KitX K (.ref x) (.ref C) (fun h => ∃ ox od,PySem.W.InstAt h x ox C od) where
  ty:=fun _ _ _ ⟨_,_,I⟩ => I.type
  it:=fun _ _ X _ => by
    obtain ⟨cdD,hcD,_⟩:=PySem.W.any_some c.hd
    unfold PySem.W.clsIn at hcD
    split at hcD
    · rename_i c' d' cd' sl' ho
      intro A' Q' E' s' k q
      unfold isType loadHead
      exact wpAny_bind (wpAny_loadPart (k _ _ (X _ _ ho)) (wpAny_pure q))
    · cases hcD
  ne:=fun h tp dd its n sl X htp => by
    obtain ⟨cdD,hcD,_⟩:=PySem.W.any_some c.hd
    refine Bool.eq_false_iff.mpr fun q => ?_
    have e:C = tp:=Value.ref.inj (beq_iff_eq.mp q)
    subst e
    unfold PySem.W.clsIn at hcD
    split at hcD
    · rename_i c' d' cd' sl' ho
      exact nomatch (X _ _ ho).symm.trans htp
    · cases hcD
  ca:=fun X ⟨_,_,I⟩ k => Zgc c X I k
end
end L2
namespace L2
open PySem PySem.Spec PyProof.Rows
def Tr (h B:Heap) (e:Addr) (cls a0:Value) (dd:Option Addr) (fl:Value):Prop :=
  ∃ oe vs T oT ts,h.get? e = some oe ∧ oe.cls = cls ∧ oe.dict = dd ∧ oe.data = .fields vs ∧ vs[0]? = some a0 ∧ vs[1]? = some (.ref T) ∧ B.get? T = none ∧ T ≠ e ∧ h.get? T = some oT ∧ oT.data = .fields ts ∧ ts[3]? = some fl
theorem Zc0 (o:Obj) (f):(o.mapFields f).dict = o.dict:=by
  obtain ⟨c,d,dt,sl⟩:=o
  cases dt <;> rfl
theorem ZaV {h:Heap} {a:Addr} {o:Obj} {vs:Array Value} (f:Array Value → Array Value) (ho:h.get? a = some o) (hd:o.data = .fields vs):h.UpToSlots (h.update a (Obj.mapFields f)):=fun b u e n =>
  ⟨u.slots,by
    rw [Heap.get?_update_other _ _ fun z => by subst z; rw [ho] at e; cases e; exact n vs hd]
    exact e⟩
theorem Zbg {h h' B:Heap} {l:List Env} (u:h.UpToSlots h') (f:h.FunFrames B l):h'.FunFrames B l:=f.of_keeps fun b o e n => let ⟨sl,q⟩:=u b o e n; ⟨_,q,rfl⟩
section
variable {M:Model} {A:Around} {E:Value → Shared → Prop} {s:Shared} {B:Heap} {env:Env} {outer:List Env} {L e:Addr} {oe:Obj} {vs:Array Value} {cls a0:Value} {dd:Option Addr} {Q:Unit → Shared → Prop}
theorem ZcK {hd0:Value} {hn:Bool} (hfr:A.frames = some (env :: outer)) (fl:s.heap.FunFrames B (env :: outer)) (hf:env.frame = some L) (he:s.heap.get? e = some oe) (st:B.StaysIn s.heap) (nb:B.get? e = none) (hd:oe.data = .fields vs)
    (h0:vs[0]? = some a0) (hz:1 < vs.size) (k:∀ h',B.StaysIn h' → h'.FunFrames B (env :: outer) → Tr h' B e oe.cls a0 oe.dict (rawInt L) → s.heap.UpToSlots h' → Q () { s with heap:=h' }) :
    wpAny M A (do let a ← frameOf env; let pl ← entryPlaceOf L hn; let b ← EntryCells.newEntry hd0 a .none (rawInt L) .none pl; setField (.ref e) 1 b) Q E s:=by
  have notf:e ∉ (env :: outer).filterMap (·.frame):=fun hm => by
    obtain ⟨_,o,ho,n⟩:=fl.mem hm
    rw [he] at ho; cases ho; exact n vs hd
  refine wpAny_bind (wpAny_frameOf_fun hfr fl hf fun h1 so => wpAny_bind (wpAny_entryPlaceOf fun pl hpl => ?_))
  have u1:s.heap.UpToSlots h1:=fun b o q _ => so.2.2 b o q
  have st1:B.StaysIn h1:=fun b o q => (so.2.1 b fun hm => by rw [(fl.mem hm).1] at q; cases q).trans (st b o q)
  have he1:h1.get? e = some oe:=(so.2.1 e notf).trans he
  unfold EntryCells.newEntry newFields
  refine wpAny_bind (wpAny_newObj_type ?_ (hpl.sizeOk5 _ _ _ _ _))
  generalize ht:([hd0,Value.ref L,.none,rawInt L,.none] ++ (if pl.isEmpty then List.replicate 6 Value.none else pl)).toArray = ts
  have ht3:ts[3]? = some (rawInt L):=by rw [← ht]; simp
  have he2:=Heap.get?_push_of_some (h:=h1) { cls:=.type "traceback", dict:=none,data:=.fields ts } he1
  refine wpAny_setField he2 hd hz (k _ ?_ ?_ ?_ ?_)
  · intro b o q
    rw [Heap.get?_update_other _ _ fun z => by subst z; rw [nb] at q; cases q]
    exact Heap.get?_push_of_some _ (st1 b o q)
  · exact Zbg ((u1.trans (.of_keeps fun b o q => Heap.get?_push_of_some _ q)).trans (ZaV _ he2 hd)) fl
  · have nT:h1.objs.size ≠ e:=Nat.ne_of_gt (Heap.lt_size he1)
    refine ⟨_,_,h1.objs.size,{ cls:=.type "traceback", dict:=none,data:=.fields ts },ts,Heap.get?_update_self _ he2 (Obj.isFreed_of_fields (Obj.data_mapFields hd _)),Obj.cls_mapFields _ _,Zc0 _ _,Obj.data_mapFields hd _,?_,?_,st1.fresh,nT,?_,rfl,ht3⟩
    · rw [Array.getElem?_setIfInBounds_ne (by decide)]; exact h0
    · simp [hz]
    · rw [Heap.get?_update_other _ _ (Ne.symm nT)]
      exact Heap.get?_push_size h1 rfl
  · exact (u1.trans (.of_keeps fun b o q => Heap.get?_push_of_some _ q)).trans (ZaV _ he2 hd)
theorem Zfo (hfr:A.frames = some (env :: outer)) (fl:s.heap.FunFrames B (env :: outer)) (hf:env.frame = some L) (he:s.heap.get? e = some oe) (st:B.StaysIn s.heap) (nb:B.get? e = none) (hd:oe.data = .fields vs)
    (h0:vs[0]? = some a0) (h1:vs[1]? = some .none) (k:∀ h',B.StaysIn h' → h'.FunFrames B (env :: outer) → Tr h' B e oe.cls a0 oe.dict (rawInt L) → s.heap.UpToSlots h' → Q () { s with heap:=h' }) :
    wpAny M A (noteFrame (.ref e) env) Q E s:=by
  unfold noteFrame
  simp only [hf]
  refine wpAny_bind (wpAny_field he hd h1 ?_)
  rw [if_neg (by decide)]
  exact ZcK hfr fl hf he st nb hd h0 (Array.getElem?_eq_some_iff.mp h1).1 k
theorem Zgd (hfr:A.frames = some (env :: outer)) (fl:s.heap.FunFrames B (env :: outer)) (hf:env.frame = some L) (tr:Tr s.heap B e cls a0 dd .none) (st:B.StaysIn s.heap) (nb:B.get? e = none)
    (k:∀ h',B.StaysIn h' → h'.FunFrames B (env :: outer) → Tr h' B e cls a0 dd (rawInt L) → s.heap.UpToSlots h' → Q () { s with heap:=h' }):wpAny M A (noteFrame (.ref e) env) Q E s:=by
  obtain ⟨oe,vs,T,oT,ts,he,rfl,rfl,hd,h0,h1,nT,hTe,hT,hdT,h3⟩:=tr
  unfold noteFrame
  simp only [hf]
  refine wpAny_bind (wpAny_field he hd h1 ?_)
  rw [if_pos (show (Value.ref T != Value.none) = true from by simp)]
  refine wpAny_bind (wpAny_field hT hdT h3 ?_)
  rw [if_neg (show ¬ ((Value.none == rawInt L) = true) from by simp [rawInt])]
  have u:=ZaV (·.setIfInBounds 3 Value.none) hT hdT
  refine wpAny_bind (wpAny_setField hT hdT (Array.getElem?_eq_some_iff.mp h3).1 (ZcK (s:={ s with heap:=s.heap.update T (Obj.mapFields (·.setIfInBounds 3 Value.none)) }) hfr (Zbg u fl) hf (by rw [Heap.get?_update_other _ _ hTe]; exact he) (fun b o q => ?_) nb hd h0 (Array.getElem?_eq_some_iff.mp h1).1 fun h' a b c d => k h' a b c (u.trans d)))
  rw [Heap.get?_update_other _ _ fun z => by subst z; rw [nT] at q; cases q]
  exact st b o q
theorem ZgT {fl0:Value} {l:List Env} (fl:s.heap.FunFrames B l) (tr:Tr s.heap B e cls a0 dd fl0) (st:B.StaysIn s.heap)
    (k:∀ h',B.StaysIn h' → h'.FunFrames B l → Tr h' B e cls a0 dd .none → s.heap.UpToSlots h' → Q () { s with heap:=h' }):wpAny M A (setFlight (.ref e) none) Q E s:=by
  obtain ⟨oe,vs,T,oT,ts,he,rfl,rfl,hd,h0,h1,nT,hTe,hT,hdT,h3⟩:=tr
  have h3':3 < ts.size:=(Array.getElem?_eq_some_iff.mp h3).1
  have u:=ZaV (·.setIfInBounds 3 ((none:Option Addr).elim Value.none fun f => rawInt f)) hT hdT
  unfold setFlight
  refine wpAny_bind (wpAny_field he hd h1 ?_)
  rw [if_pos (show (Value.ref T != Value.none) = true from by simp)]
  refine wpAny_setField hT hdT h3' (k _ (fun b o q => ?_) (Zbg u fl) ⟨oe,vs,T,_,_,?_,rfl,rfl,hd,h0,h1,nT,hTe,Heap.get?_update_self _ hT (Obj.isFreed_of_fields (Obj.data_mapFields hdT _)),Obj.data_mapFields hdT _,by simp [h3']⟩ u)
  · rw [Heap.get?_update_other _ _ fun z => by subst z; rw [nT] at q; cases q]
    exact st b o q
  · rw [Heap.get?_update_other _ _ hTe]; exact he
end
end L2
namespace L2
open PySem PySem.Spec PyProof.Rows
structure Air (P:Program) (w:World) (B:Heap) (l:List Env) (H:Hp) (h:Heap) (e t:Addr) (cls:Value) (dd:Option Addr) (fl:Value):Prop where
  hok:HOk P w H h
  st:B.StaysIn h
  nb:B.get? e = none
  fr:h.FunFrames B l
  tr:Tr h B e cls (.ref t) dd fl
  tk:∀ b u,H b = some u → ∃ o,B.get? b = some o
theorem Air.free {P:Program} {w:World} {B:Heap} {l:List Env} {H:Hp} {h:Heap} {e t:Addr} {cls:Value} {dd:Option Addr} {fl:Value} (a:Air P w B l H h e t cls dd fl):H e = none:=by
  cases q:H e with
  | none => rfl
  | some u => obtain ⟨o,z⟩:=a.tk e u q; rw [a.nb] at z; cases z
theorem Zdc {P:Program} {w:World} {B:Heap} {H:Hp} {h h':Heap} (x:HOk P w H h) (st:B.StaysIn h) (st':B.StaysIn h') (tk:∀ b u,H b = some u → ∃ o,B.get? b = some o):HOk P w H h':=fun a o e =>
  (x a o e).stay (fun b u hb q => by
    have:∃ v,H b = some v:=by
      rcases hb with rfl | hb
      · exact ⟨o,e⟩
      · exact ⟨_,hb⟩
    obtain ⟨v,hv⟩:=this
    obtain ⟨ob,z⟩:=tk b v hv
    have e2:=(st b ob z).symm.trans q
    cases e2
    exact st' b _ z) (fun _ q => q) fun _ _ q => q
def CXx (P:Program) (w:World):CXT:=fun outer H s E ev s' =>
  ∃ (e t:Addr) (cls:Value) (dd:Option Addr) (H':Hp) (B:Heap),ev = .ref e ∧ s'.os = s.os ∧ AllBare s'.gens ∧ Un (frs outer) [] H H' s.heap s'.heap ∧ Air P w B outer H' s'.heap e t cls dd .none ∧
    (∀ b o,s.heap.get? b = some o → H b = none → b ∉ frs outer → B.get? b = some o) ∧ (∀ b o,s.heap.get? b = some o → b ∉ frs outer → ∃ o',B.get? b = some o') ∧ E cls dd H'
section
variable {M:Model} {A:Around} {E:Value → Shared → Prop} {s:Shared} {P:Program} {w:World} {B:Heap} {env:Env} {outer:List Env} {H:Hp} {L e t:Addr} {cls:Value} {dd:Option Addr} {fl:Value} {Q:Unit → Shared → Prop} {B0:Heap}
theorem Air.note (a:Air P w B (env :: outer) H s.heap e t cls dd .none) (hfr:A.frames = some (env :: outer)) (hf:env.frame = some L) (k:∀ h',Air P w B (env :: outer) H h' e t cls dd (rawInt L) → s.heap.UpToSlots h' → Q () { s with heap:=h' }) :
    wpAny M A (noteFrame (.ref e) env) Q E s :=
  Zgd hfr a.fr hf a.tr a.st a.nb fun h' st fr tr up => k h' ⟨Zdc a.hok a.st st a.tk,st,a.nb,fr,tr,a.tk⟩ up
theorem Air.off {l:List Env} (a:Air P w B l H s.heap e t cls dd fl) (k:∀ h',Air P w B l H h' e t cls dd .none → s.heap.UpToSlots h' → Q () { s with heap:=h' }):wpAny M A (setFlight (.ref e) none) Q E s :=
  ZgT a.fr a.tr a.st fun h' st fr tr up => k h' ⟨Zdc a.hok a.st st a.tk,st,a.nb,fr,tr,a.tk⟩ up
theorem Air.leave (a:Air P w B (env :: outer) H s.heap e t cls dd .none) (hfr:A.frames = some (env :: outer)) (hf:env.frame = some L) (k:∀ h',Air P w B outer H h' e t cls dd .none → s.heap.UpToSlots h' → Q () { s with heap:=h' }) :
    wpAny M A (leaving env (.ref e)) Q E s:=by
  unfold leaving
  refine wpAny_bind (a.note hfr hf fun h1 a1 u1 => ?_)
  refine Air.off (s:={ s with heap:=h1 }) a1 fun h2 a2 u2 => ?_
  obtain ⟨_,_,fr⟩:=a2.fr
  exact k h2 ⟨a2.hok,a2.st,a2.nb,fr,a2.tr,a2.tk⟩ (u1.trans u2)
theorem ZhM {s0:Heap} {vs:List Value} (hok:HOk P w H s0) (fl0:s0.FunFrames B0 (env :: outer)) (hm:Heap.MadeExcOf s0 s.heap e cls vs) (hn:∀ b ∈ frs (env :: outer),H b = none) (hfr:A.frames = some (env :: outer)) (hf:env.frame = some L)
    (k:∀ h' t,Air P w (PySem.W.hideAll s0 (frs (env :: outer))) (env :: outer) H h' e t cls none (rawInt L) → s0.UpToSlots h' → Q () { s with heap:=h' }):wpAny M A (noteFrame (.ref e) env) Q E s:=by
  obtain ⟨t,he,_,_⟩:=hm.there
  have st0:(PySem.W.hideAll s0 (frs (env :: outer))).StaysIn s0:=fun b o q => PySem.W.of_hideAll _ q
  have st:(PySem.W.hideAll s0 (frs (env :: outer))).StaysIn s.heap:=fun b o q => hm.keeps b o (st0 b o q)
  have tk:∀ b u,H b = some u → ∃ o,(PySem.W.hideAll s0 (frs (env :: outer))).get? b = some o:=fun b u q => by
    have lt:=hok.lt q
    obtain ⟨o,ho⟩:∃ o,s0.get? b = some o:=by
      have x:=hok b u q
      cases u with
      | lst xs => obtain ⟨_,_,_,_,z⟩:=x; exact ⟨_,z⟩
      | tup xs => obtain ⟨_,_,_,o,z,_⟩:=x; exact ⟨_,z⟩
      | dK kvs => obtain ⟨_,_,_,_,o,_,_,z,_⟩:=x; exact ⟨_,z⟩
      | dT kvs => obtain ⟨_,_,_,_,o,_,_,z,_⟩:=x; exact ⟨_,z⟩
      | set S n => obtain ⟨o,_,_,_,z,_⟩:=x; exact ⟨_,z⟩
      | ins C dx fs => obtain ⟨_,_,_,z,_⟩:=x; exact ⟨_,z⟩
      | own y => obtain ⟨_,z⟩:=x; exact ⟨_,z⟩
      | xd fs => obtain ⟨_,⟨_,_,_,z,_⟩,_⟩:=x; exact ⟨_,z⟩
      | rng lo hi => obtain ⟨_,_,_,z⟩:=x; exact ⟨_,z⟩
      | frz ob v => obtain ⟨z,_⟩:=x; exact ⟨_,z⟩
      | tbl ps => exact ⟨_,(show s0.get? b = some _ from x)⟩
      | met f y => exact ⟨_,(show s0.get? b = some _ from x)⟩
      | ext φ => obtain ⟨_,⟨_,z⟩,_⟩:=x; exact ⟨_,z⟩
    exact ⟨o,PySem.W.hideAll_get _ ho fun hm => by rw [hn b hm] at q; cases q⟩
  have nb:(PySem.W.hideAll s0 (frs (env :: outer))).get? e = none:=by
    cases q:(PySem.W.hideAll s0 (frs (env :: outer))).get? e with
    | none => rfl
    | some o => have:=st0 e o q; rw [hm.new] at this; cases this
  have fl1:s0.FunFrames (PySem.W.hideAll s0 (frs (env :: outer))) (env :: outer):=PySem.W.funFrames_hide fl0 fun x hx a ha => List.mem_filterMap.mpr ⟨x,hx,ha⟩
  refine Zfo hfr (Zbg (.of_keeps hm.keeps) fl1) hf he st nb rfl rfl rfl fun h' st' fr tr up => ?_
  exact k h' t ⟨Zdc hok st0 st' tk,st',nb,fr,tr,tk⟩ ((Heap.UpToSlots.of_keeps hm.keeps).trans up)
end
end L2
namespace L2
open PySem PySem.Spec PyProof.Rows
theorem Zca {env:Env} {outer:List Env} {L b:Addr} (hf:env.frame = some L):b ∈ frs (env :: outer) ↔ b = L ∨ b ∈ frs outer:=by
  unfold frs
  rw [List.filterMap_cons,hf,List.mem_cons]
section
variable {X:Cx} {pins:List (Addr × Obj)} {σ:St} {H1 H2:Hp} {s1:Shared} {B h2 h3:Heap}
theorem Zez (U:Un (frs X.stack) [] H1 H2 s1.heap h2) (fr:h2.FunFrames B X.stack) (up:h2.UpToSlots h3) (st:B.StaysIn h3) (in1:∀ b o,s1.heap.get? b = some o → H1 b = none → b ∉ frs X.stack → B.get? b = some o)
    (in2:∀ b o,s1.heap.get? b = some o → b ∉ frs X.stack → ∃ o',B.get? b = some o'):Un (frs X.stack) [] H1 H2 s1.heap h3 where
  keep:=fun b o q n hb _ => st b o (in1 b o q n hb)
  slot:=fun b o q n hb hx => by
    obtain ⟨sl,e⟩:=U.slot b o q n hb hx
    obtain ⟨_,o',e',nf⟩:=fr.mem hb
    rw [e] at e'
    cases e'
    obtain ⟨sl',e2⟩:=up b _ e nf
    exact ⟨sl',e2⟩
  free:=U.free
  there:=fun b o q hx => by
    by_cases hb:b ∈ frs X.stack
    · obtain ⟨_,o',e',nf⟩:=fr.mem hb
      obtain ⟨sl,e2⟩:=up b _ e' nf
      exact ⟨_,e2⟩
    · obtain ⟨o',z⟩:=in2 b o q hb
      exact ⟨o',st b o' z⟩
  tups:=U.tups
  frzs:=U.frzs
  tbls:=U.tbls
theorem Zge (I:Inv X pins σ H1 s1) (hx:X.ex = []) (hs:X.stack = X.env :: X.outer) (hf:X.env.frame = some X.env.locals) (U:Un (frs X.stack) [] H1 H2 s1.heap h2) (fr:h2.FunFrames B X.stack) (up:h2.UpToSlots h3) (st:B.StaysIn h3)
    (in1:∀ b o,s1.heap.get? b = some o → H1 b = none → b ∉ frs X.stack → B.get? b = some o) (in2:∀ b o,s1.heap.get? b = some o → b ∉ frs X.stack → ∃ o',B.get? b = some o') :
    Un X.fs [] X.H₀ H2 X.s₀.heap h3 ∧ (∀ b o,X.s₀.heap.get? b = some o → X.H₀ b = none → b ∉ X.fs → B.get? b = some o) ∧ ∀ b o,X.s₀.heap.get? b = some o → b ∉ X.fs → ∃ o',B.get? b = some o':=by
  have V:=Zez U fr up st in1 in2
  have ib:Un X.fs [] X.H₀ H1 X.s₀.heap s1.heap:=by have:=I.base; rw [hx] at this; exact this
  have ne:∀ b o,X.s₀.heap.get? b = some o → b ≠ X.env.locals:=fun b o q z => by
    subst z
    exact absurd (Nat.lt_of_lt_of_le (Heap.lt_size q) I.ok.above) (Nat.lt_irrefl _)
  have nm:∀ b o,X.s₀.heap.get? b = some o → b ∉ X.fs → b ∉ frs X.stack:=fun b o q hb z => by
    rw [hs] at z
    rcases (Zca hf).mp z with e | e
    · exact ne b o q e
    · exact hb e
  have sub:∀ b,b ∈ X.fs → b ∈ frs X.stack:=fun b hb => by rw [hs]; exact (Zca hf).mpr (.inr hb)
  refine ⟨⟨fun b o q n hb hx => ?_,fun b o q n hb hx => ?_,fun b o q n hx => ?_,fun b o q hx => ?_,fun b xs q => V.tups b xs (ib.tups b xs q),fun b o u q => V.frzs b o u (ib.frzs b o u q),fun b ps q => ?_⟩,fun b o q n hb => ?_,fun b o q hb => ?_⟩
  · exact V.keep b o (ib.keep b o q n hb hx) (ib.free b o q n hx) (nm b o q hb) hx
  · obtain ⟨sl,e⟩:=ib.slot b o q n hb hx
    obtain ⟨sl',e'⟩:=V.slot b _ e (ib.free b o q n hx) (sub b hb) hx
    exact ⟨sl',e'⟩
  · obtain ⟨o',e⟩:=ib.there b o q hx
    exact V.free b o' e (ib.free b o q n hx) hx
  · obtain ⟨o',e⟩:=ib.there b o q hx
    exact V.there b o' e hx
  · obtain ⟨m1,e1⟩:=ib.tbls b ps q
    obtain ⟨m2,e2⟩:=V.tbls b _ e1
    exact ⟨m1 ++ m2,by rw [e2,Array.append_assoc]⟩
  · exact in1 b o (ib.keep b o q n hb (by simp)) (ib.free b o q n (by simp)) (nm b o q hb)
  · obtain ⟨o',e⟩:=ib.there b o q (by simp)
    exact in2 b o' e (nm b o q hb)
end
section
variable {P:Program} {w:World} {K:PySem.W.Frag} {mg:Str → Option Value} {base:Heap} {N:List Str} {qual:Str} {scope:Scope} {f:Addr} {cd:Value} {A:Around} {outer:List Env} {s:Shared} {H:Hp} {E:XK}
abbrev cxX (P:Program) (w:World) (K:PySem.W.Frag) (mg:Str → Option Value) (base:Heap) (N:List Str) (qual:Str) (scope:Scope) (f:Addr) (cd:Value) (A:Around) (outer:List Env) (s:Shared) (H:Hp) (E:XK):Cx :=
  Zhc (CXx P w) P w K mg base N qual scope f cd A outer s H E
def Zfp (X:Cx) (E:St → XK):Prop:=∀ (pins:List (Addr × Obj)) (σ:St) (H:Hp) (s:Shared) (e:Value) (s':Shared),Inv X pins σ H s → CXx X.prog X.w X.stack H s (E σ) e s' → X.xe e s'
theorem Zdt:Zfp (cxX P w K mg base N qual scope f cd A outer s H E) fun _ => E:=by
  intro pins σ H1 s1 ev s2 I h
  obtain ⟨e,t,cls,dd,H2,B,rfl,os,bare,U,a,in1,in2,q⟩:=h
  show wpAny (model P w) (A.deeper (envOfC qual scope s.heap.objs.size f cd)) (leaving (envOfC qual scope s.heap.objs.size f cd) (.ref e)) _ _ s2
  have hfr:=I.ok.frames
  refine Air.leave (L:=s.heap.objs.size) a hfr rfl fun h3 a3 up => ?_
  obtain ⟨u,i1,i2⟩:=Zge I rfl rfl rfl U a.fr up a3.st in1 in2
  exact ⟨e,t,cls,dd,H2,B,rfl,os.trans I.os,bare,u,a3,i1,i2,q⟩
def Zgf (X:Cx) (E:XK):Prop:=∀ (pins:List (Addr × Obj)) (σ:St) (H:Hp) (s:Shared) (h':Heap) (e:Addr) (cls:Value) (vs:List Value),Inv X pins σ H s → Heap.MadeExcOf s.heap h' e cls vs → E cls none H → X.xe (.ref e) { s with heap:=h' }
theorem ZbF:Zgf (cxX P w K mg base N qual scope f cd A outer s H E) E:=by
  intro pins σ H1 s1 h' e cls vs I hm q
  show wpAny (model P w) (A.deeper (envOfC qual scope s.heap.objs.size f cd)) (leaving (envOfC qual scope s.heap.objs.size f cd) (.ref e)) _ _ _
  have hfr:=I.ok.frames
  unfold leaving
  refine wpAny_bind (ZhM (s:={ s1 with heap:=h' }) I.hok I.stack hm I.stkFree hfr rfl fun h2 t a2 u2 => ?_)
  refine Air.off (s:={ s1 with heap:=h2 }) a2 fun h3 a3 u3 => ?_
  obtain ⟨_,_,fr⟩:=a3.fr
  have fr0:s1.heap.FunFrames (PySem.W.hideAll s1.heap (frs (cxX P w K mg base N qual scope f cd A outer s H E).stack)) (cxX P w K mg base N qual scope f cd A outer s H E).stack:=PySem.W.funFrames_hide I.stack fun x hx a ha => List.mem_filterMap.mpr ⟨x,hx,ha⟩
  obtain ⟨u,i1,i2⟩:=Zge I rfl rfl rfl .refl fr0 (u2.trans u3) a3.st (fun b o e _ hb => PySem.W.hideAll_get _ e hb) (fun b o e hb => ⟨o,PySem.W.hideAll_get _ e hb⟩)
  exact ⟨e,t,cls,none,H1,_,rfl,I.os,I.bare,u,⟨a3.hok,a3.st,a3.nb,fr,a3.tr,a3.tk⟩,i1,i2,q⟩
theorem Fun.okx {x qual:Str} {st:Stmt} {f:Addr} {fd:FuncData} {N ps:List Str} {k:Nat} {sp:Sp} (F:Fun K x qual st f fd) (S:FnScope N ps (Zag st)) (len:∀ vs H Q E,sp vs H Q E → vs.length = ps.length)
    (hbody:∀ (cdv:Value) (A:Around) (outer:List Env) (s:Shared) (H:Hp) (vs:List V) (Q:VK) (E:XK),Room k (A.deeper (envOfC qual (Zag st) s.heap.objs.size f cdv)) → sp vs H Q E →
      ∃ t,PSs (cxX P w K mg base N qual (Zag st) f cdv A outer s H E) (ZaU st) t ∧ t { nx:=fun _ H' => Q .non H',rt:=Q } (start N vs) H):FnOk P w K mg base (CXx P w) (k + 1) f fd ps sp:=by
  obtain ⟨oc,od,kV,doc,pm,an,cdv,ct,osl,rfl,lk,hcd⟩:=F.ex
  exact ZgL lk hcd S len fun A outer s H vs Q E hr hsp => hbody cdv A outer s H vs Q E hr hsp
end
theorem PS.nox {X:Cx} {st:Stmt} {t:TS} (h:PS X.nox st t):PS X st t:=fun pins s σ H D I hw =>
  wpAny_mono (h pins s σ H D (I.wish _) hw) (fun _ _ q => q.unwish) fun _ _ z => False.elim z
structure HasX (P:Program) (w:World) (K:PySem.W.Frag) (mg:Str → Option Value) (base:Heap) (x:Str) (k:Nat) (ps:List Str) (sp:Sp):Prop where
  ex:∃ (f:Addr) (fd:FuncData),FnOk P w K mg base (CXx P w) k f fd ps sp ∧ mg x = some (.ref f) ∧ PySem.W.keepIn K (.ref f) = true ∧ Binds K fd ps []
structure HasMX (P:Program) (w:World) (K:PySem.W.Frag) (mg:Str → Option Value) (base:Heap) (C:Addr) (m:Str) (k:Nat) (ps:List Str) (dvs:List V) (sp:Sp):Prop where
  ex:∃ (f:Addr) (fd:FuncData) (ds:List Value),FnOk P w K mg base (CXx P w) k f fd ps sp ∧ Meth K C m f ∧ Binds K fd ps ds ∧ Vals dvs ds
structure HasIX (P:Program) (w:World) (K:PySem.W.Frag) (mg:Str → Option Value) (base:Heap) (C:Addr) (k:Nat) (ps:List Str) (sp:Sp):Prop where
  ex:∃ (f:Addr) (fd:FuncData),Mk K C f ∧ FnOk P w K mg base (CXx P w) k f fd ps sp ∧ Binds K fd ps []
section
variable {P:Program} {w:World} {K:PySem.W.Frag} {mg:Str → Option Value} {base:Heap} {x m qual:Str} {C:Addr} {st:Stmt} {j k:Nat} {ps:List Str} {dvs:List V} {sp:Sp}
theorem HasX.mono (h:HasX P w K mg base x j ps sp) (e:j ≤ k):HasX P w K mg base x k ps sp:=let ⟨f,fd,a,b,c,d⟩:=h.ex; ⟨f,fd,a.mono e,b,c,d⟩
theorem HasMX.mono (h:HasMX P w K mg base C m j ps dvs sp) (e:j ≤ k):HasMX P w K mg base C m k ps dvs sp:=let ⟨f,fd,ds,a,b,c,d⟩:=h.ex; ⟨f,fd,ds,a.mono e,b,c,d⟩
theorem HasIX.mono (h:HasIX P w K mg base C j ps sp) (e:j ≤ k):HasIX P w K mg base C k ps sp:=let ⟨f,fd,a,b,c⟩:=h.ex; ⟨f,fd,a,b.mono e,c⟩
theorem Here.hasX (h:Here K mg x st) (b:∀ f fd,Fun K x x st f fd → Binds K fd ps []) (ok:∀ f fd,Fun K x x st f fd → FnOk P w K mg base (CXx P w) k f fd ps sp):HasX P w K mg base x k ps sp :=
  let ⟨f,fd,F,m⟩:=h.ex
  ⟨f,fd,ok f fd F,m,F.kp,b f fd F⟩
end
section
variable {X:Cx} {k:Nat} {f C:Addr} {fd:FuncData} {ps:List Str} {sp:Sp} {dvs:List V} {ds:List Value} {E:St → XK} {x m:Str} {p pos apos:Pos} {e o:Expr} {es:List Expr} {ta:TE} {t:TA}
theorem ZhN {pins:List (Addr × Obj)} {σ:St} {H:Hp} {s:Shared} {Q:VK} {us:List Value} {vs:List V} (F:FnOk X.prog X.w X.K X.mg X.base (CXx X.prog X.w) k f fd ps sp) (hr:Room k X.A) (hb:Binds X.K fd ps ds) (hd:Vals dvs ds) (hx:Zfp X E)
    (I:Inv X pins σ H s) (r:Vals vs us) (h:sp (vs ++ dvs) H Q (E σ)):wpAny (model X.prog X.w) X.A (call (.ref f) us) (EP X pins σ Q) X.xe s:=by
  have r2:Vals (vs ++ dvs) (us ++ ds):=r.append hd
  have hl:(us ++ ds).length = ps.length:=by rw [← r2.length]; exact F.len _ _ _ _ h
  refine wpAny_call (codeAny_mono (F.run X.A X.stack s H ⟨us,[]⟩ (us ++ ds) (vs ++ dvs) Q (E σ) hr I.env0 (hb s us I.kIn hl) r2 h) fun r s' hq => ?_)
  cases r with
  | error e => exact hx pins σ H s e s' I hq
  | ok fl =>
    cases fl with
    | ret u => exact I.after hq
    | next => exact False.elim hq
    | brk => exact False.elim hq
    | cont => exact False.elim hq
theorem Za0 (h:HasX X.prog X.w X.K X.mg X.base x k ps sp) (hx:Zfp X E) (hr:Room k X.A) (hg:Gl X x) (ha:PA X (e :: es) t) (hdb:(x == ("__debug__" : Str)) = false:=by decide)
    (he:starEach (e :: es) X.env = (false,eval e X.env) :: starEach es X.env:=by rfl) (hpl:(backTo pos (starEach es X.env)).any (·.1) = false:=by rfl) :
    PE X (.Call (.Name x p) (e :: es) [] pos) (fun σ H Q => t σ H fun vs H1 => sp vs H1 Q (E σ)):=by
  obtain ⟨f,fd,F,hm,hk,hb⟩:=h.ex
  intro pins s σ H Q I h
  refine wpAny_Call_Name_kw (ZbJ I hg hm ?_ hdb)
  refine PySem.W.callWith_K (h₀:=X.base) I.ok.mod.kin hk (thn (ha pos pins s σ H _ I h) fun us s1 ⟨vs,H1,I1,r,q⟩ => ⟨I1.kIn,?_⟩) he hpl
  exact ZhN (dvs:=[]) F hr hb .nil hx I1 r (by rw [List.append_nil]; exact q)
end
end L2
namespace L2
open PySem PySem.Spec PyProof.Rows
abbrev bmV:List Value:=[.type "ValueError", .type "Exception", .type "BaseException", .type "object"]
structure ExcC (K:PySem.W.Frag) (mg:Str → Option Value) (x:Str) (C:Addr):Prop where
  cls:XCls K C
  mgx:mg x = some (.ref C)
  ein:PySem.W.excIn K C bmV "ValueError.__new__" = true
theorem ExcC.obj {K:PySem.W.Frag} {mg:Str → Option Value} {x:Str} {C:Addr} (c:ExcC K mg x C) {h:Heap} (X:K.In h):OwnCls x C bmV "ValueError.__new__" mg h:=by
  refine ⟨c.mgx,?_⟩
  have q:=c.ein
  unfold PySem.W.excIn at q
  split at q
  · rename_i dd cd sl ho
    split at q
    · rename_i C' bm k0 k1 k2 k3 n k5 hm hs
      simp only [Bool.and_eq_true,beq_iff_eq,Bool.not_eq_true'] at q
      obtain ⟨⟨⟨⟨⟨rfl,rfl⟩,hdel⟩,ht⟩,hok⟩,hni⟩:=q
      obtain ⟨nm,bs,mro,ns,qn,hd,sn,sub,ab,col,del⟩:=cd
      dsimp only at hm hdel hok hni
      subst hm hdel
      obtain ⟨l⟩:=sl
      have hl:l = [k0,k1,k2,k3,some (.builtin "ValueError.__new__"),k5]:=hs
      subst hl
      exact ⟨bm,ns,nm,qn,bs,hd,sn,sub,ab,col,dd,k0,k1,k2,k3,k5,_,X _ _ ho,.of_isNs (PySem.W.isNs_of_in X hok),PySem.W.nsMap_none_of_in X hok hni,PySem.W.tail_of_in X ht⟩
    · cases q
  · cases q
section
variable {X:Cx} {k:Nat} {C:Addr} {ps:List Str} {sp:Sp} {x m:Str} {p pos np cpos:Pos} {e:Expr} {es:List Expr} {t:TA}
theorem ZaX {E:XK} (c:ExcC X.K X.mg x C) (hR:Zgf X E) (hcalm:X.calm = true) (hg:Gl X x) (ha:PA X (e :: es) t) (hl:(e :: es).length ≤ 1000:=by decide)
    (he:starEach (e :: es) X.env = (false,eval e X.env) :: starEach es X.env:=by rfl) (hpl:(backTo cpos (starEach es X.env)).any (·.1) = false:=by rfl) (hdb:(x == ("__debug__" : Str)) = false:=by decide) :
    PS X (.Raise (some (.Call (.Name x np) (e :: es) [] cpos)) none pos) (fun _ σ H => t σ H fun vs H1 => vs.length ≤ 1000 ∧ E (.ref C) none H1):=by
  intro pins s σ H D I h
  obtain ⟨bm,N,nm,q,bs,hdct,sn,sub,ab,col,dd,k0,k1,k2,k3,k5,mN,hC,hN,hni,T⟩:=(c.obj I.mod.kin).obj
  refine wpAny_Raise_call_subT (C:=C) (nm:=nm) (q:=q) (N:=N) (bs:=bs) (bm:=bm) (hdct:=hdct) (sn:=sn) (sub:=sub) (ab:=ab) (col:=col) (dd:=dd) (k0:=k0) (k1:=k1) (k2:=k2) (k3:=k3) (k5:=k5) PySem.F.excBase_ValueError
    (mN:=mN) (T.hasType PySem.F.excBase_ValueError.hasBase) (I.ok.hd hcalm) (by rw [he]; show (false || (backTo cpos (starEach es X.env)).any (·.1)) = false; rw [hpl]; rfl) hni (ZbJ I hg c.mgx ⟨rfl,?_⟩ hdb)
  have z:=ha cpos pins s σ H _ I h
  rw [he] at z ⊢
  refine Calls.evalArgs_plain (wpAny_mono z (fun us s2 ⟨vs,H2,I2,r,hv,q2⟩ => ⟨rfl,?_,I2.bk _ _ hC,hN.keeps I2.bk,T.keeps I2.bk,fun h' e' hm => hR pins σ H2 s2 h' e' _ _ I2 hm q2⟩) fun _ _ y => y)
  rw [← r.length]
  exact Nat.le_of_lt (ZbU hv)
end
end L2
namespace L2
open PySem PySem.Spec PyProof.Rows
def ZhY (e C:Addr) (dd:Option Addr):HO:=.ext fun h => ∃ oe vs,h.get? e = some oe ∧ oe.cls = .ref C ∧ oe.dict = dd ∧ oe.data = .fields vs
section
variable {X:Cx} {pins:List (Addr × Obj)} {σ σ1:St} {H H1:Hp} {s s1:Shared} {e C:Addr} {dd:Option Addr}
theorem Inv.track (I:Inv X pins σ H s) (I1:Inv X pins σ1 H1 s1) (ne:s1.heap.get? e = none) (hn:H e = none) {oe:Obj} {vs:Array Value} (he:s.heap.get? e = some oe) (hc:oe.cls = .ref C) (hd:oe.dict = dd) (hv:oe.data = .fields vs):Inv X pins σ (upd H e (ZhY e C dd)) s:=by
  have nx:∀ b u,H b = some u → b ≠ e:=fun b u q z => by subst z; rw [hn] at q; cases q
  have nh:∀ b o,s1.heap.get? b = some o → b ≠ e:=fun b o q z => by subst z; rw [ne] at q; cases q
  have ib:=I.base
  refine ⟨I.ok,I.os,I.bare,⟨ib.keep,ib.slot,fun b o q n hx => ?_,ib.there,fun b xs q => ?_,fun b o u q => ?_,fun b ps q => ?_⟩,I.loc,I.cell,?_,fun x c q => ?_,fun p hp => ?_,fun b u q => ?_,I.len⟩
  · obtain ⟨o',z⟩:=I1.base.there b o q hx
    rw [Zan (nh b o' z)]
    exact ib.free b o q n hx
  · have z:=ib.tups b xs q
    rw [Zan (nx b _ z)]; exact z
  · have z:=ib.frzs b o u q
    rw [Zan (nx b _ z)]; exact z
  · obtain ⟨m,z⟩:=ib.tbls b ps q
    exact ⟨m,by rw [Zan (nx b _ z)]; exact z⟩
  · obtain ⟨m,⟨o,es,ep,z,_⟩,_⟩:=I1.loc
    rw [Zan (nh _ o z)]; exact I.free
  · obtain ⟨v,o,z,_⟩:=I1.cell x c q
    rw [Zan (nh _ o z)]; exact I.freeC x c q
  · obtain ⟨a,b,c,d,f⟩:=I.pin p hp
    exact ⟨a,by rw [Zan (nh _ _ (I1.pin p hp).1)]; exact b,c,d,f⟩
  · by_cases hb:b = e
    · subst hb
      rw [Zaf] at q
      cases q
      refine ⟨⟨oe,vs,he,hc,hd,hv⟩,⟨oe,he⟩,fun h1 h2 => ?_⟩
      rintro ⟨o1,v1,a,b,c,d⟩ k
      exact ⟨o1,v1,k _ a,b,c,d⟩
    · rw [Zan hb] at q
      exact (I.hok b u q).stay (fun c v _ z => z) (fun c z => by rw [Zan (nx c _ z)]; exact z) fun c xs z => by rw [Zan (nx c _ z)]; exact z
def Cx.suite (X:Cx) (e:Addr):Cx:={ X with A:=X.A.mark (some (.ref e)),calm:=false,xe:=fun _ _ => False }
theorem Inv.suite (I:Inv X pins σ H s) (e:Addr):Inv (X.suite e) pins σ H s :=
  ⟨⟨I.ok.mod,I.ok.kind,I.ok.glob,I.ok.blt,I.ok.above,I.ok.inj,I.ok.has,I.ok.cab,(fun z => nomatch z),I.ok.frames,I.ok.stk,I.ok.exf,I.ok.bs,I.ok.bsz,I.ok.noex,I.ok.exfs,I.ok.funs,I.ok.frf⟩,I.os,I.bare,I.base,I.loc,I.cell,I.free,I.freeC,I.pin,I.hok,I.len⟩
theorem Inv.unsuite (ok:X.Ok) (I:Inv (X.suite e) pins σ H s):Inv X pins σ H s:=⟨ok,I.os,I.bare,I.base,I.loc,I.cell,I.free,I.freeC,I.pin,I.hok,I.len⟩
abbrev Cx.tryB (X:Cx) (pn:List (Addr × Obj)) (xe:Value → Shared → Prop):Cx:={ X with pn:=pn,xe:=xe }
theorem Inv.tryB (I:Inv X pins σ H s) (xe:Value → Shared → Prop):Inv (X.tryB (X.pn ++ pins) xe) [] σ H s :=
  ⟨⟨I.ok.mod,I.ok.kind,I.ok.glob,I.ok.blt,I.ok.above,I.ok.inj,I.ok.has,I.ok.cab,I.ok.hd,I.ok.frames,I.ok.stk,I.ok.exf,I.ok.bs,I.ok.bsz,I.ok.noex,I.ok.exfs,I.ok.funs,I.ok.frf⟩,I.os,I.bare,I.base,I.loc,I.cell,I.free,I.freeC,fun p hp => I.pin p (by rw [List.append_nil] at hp; exact hp),I.hok,I.len⟩
theorem Inv.untryB {xe:Value → Shared → Prop} {pins':List (Addr × Obj)} (ok:X.Ok) (I:Inv (X.tryB (X.pn ++ pins) xe) pins' σ H s):Inv X pins σ H s :=
  ⟨ok,I.os,I.bare,I.base,I.loc,I.cell,I.free,I.freeC,fun p hp => I.pin p (List.mem_append_left _ hp),I.hok,I.len⟩
theorem Inv.drop {i:Nat} {n:Str} {h':Heap} {v:Option Value} {m:Str → Option Value} {t':Nat} (I:Inv X pins σ H s) (hN:X.N.Nodup) (hi:X.N[i]? = some n) (hm:s.heap.Ns X.env.locals m)
    (hl:∀ (j:Nat) (x:Str) (u:V),X.N[j]? = some x → σ[j]? = some (some u) → Vis X.env.scope x → ∃ z,RelV u z ∧ Zi9 X.env s.heap m x z)
    (hn:h'.Ns X.env.locals (fun x => if x = n then v else m x)) (sb:Heap.SameBut X.env.locals s.heap h'):Inv X pins (σ.set i none) H { s with heap:=h',toks:=t' }:=by
  have keep:∀ b o,b ≠ X.env.locals → s.heap.get? b = some o → h'.get? b = some o:=fun b o hb q => sb.extBut b o hb q
  have ne0:∀ b o,X.s₀.heap.get? b = some o → b ≠ X.env.locals:=fun b o q z => by
    subst z
    exact absurd (Nat.lt_of_lt_of_le (Heap.lt_size q) I.ok.above) (Nat.lt_irrefl _)
  have nt:∀ b u,H b = some u → b ≠ X.env.locals:=fun b u q z => by subst z; rw [I.free] at q; cases q
  have ib:=I.base
  have hσ:i < σ.length:=by rw [I.len]; exact (List.getElem?_eq_some_iff.mp hi).1
  refine ⟨I.ok,I.os,I.bare,⟨fun b o q a c d => keep b o (ne0 b o q) (ib.keep b o q a c d),fun b o q a c d => ?_,ib.free,fun b o q d => ?_,ib.tups,ib.frzs,ib.tbls⟩,⟨_,hn,fun j x u a b c => ?_⟩,fun x c q => ?_,I.free,I.freeC,fun p hp => ?_,fun b u q => ?_,?_⟩
  · obtain ⟨sl,z⟩:=ib.slot b o q a c d
    exact ⟨sl,keep b _ (ne0 b o q) z⟩
  · obtain ⟨o',z⟩:=ib.there b o q d
    exact ⟨o',keep b o' (ne0 b o q) z⟩
  · have hji:j ≠ i:=fun z => by
      subst z
      rw [List.getElem?_set_self hσ] at b
      cases b
    rw [List.getElem?_set_ne (Ne.symm hji)] at b
    obtain ⟨z,r,lk⟩:=hl j x u a b c
    have hxn:x ≠ n:=fun z => by
      subst z
      exact hji ((List.getElem?_inj (List.getElem?_eq_some_iff.mp a).1 hN).mp (a.trans hi.symm))
    refine ⟨z,r,?_⟩
    rcases lk with ⟨k1,k2⟩ | ⟨k1,cc,k2,oc,k3,k4⟩
    · exact .inl ⟨k1,by show (if x = n then v else m x) = some z; rw [if_neg hxn]; exact k2⟩
    · exact .inr ⟨k1,cc,k2,oc,keep _ _ (I.cne x cc k2) k3,k4⟩
  · obtain ⟨v0,oc,k3,k4⟩:=I.cell x c q
    exact ⟨v0,oc,keep _ _ (I.cne x c q) k3,k4⟩
  · obtain ⟨a,b,c,d,f⟩:=I.pin p hp
    exact ⟨keep _ _ c a,b,c,d,f⟩
  · exact (I.hok b u q).stay (fun c w hc z => keep c w (by rcases hc with rfl | hc; exact nt _ _ q; exact nt _ _ hc) z) (fun _ z => z) fun _ _ z => z
  · rw [List.length_set]; exact I.len
theorem ZeA {prog:Program} {w:World} {A:Around} {E:Value → Shared → Prop} {K:PySem.W.Frag} {CE:Addr} {Q:Bool → Shared → Prop} {oe:Obj} (KX:K.In s.heap) (ht:PySem.W.typeIn K (.ref CE) = some (.type "type")) (hb:PySem.W.mroIn K CE (.type "BaseException") = some true)
    (hcl:(PySem.W.clsIn K CE).isSome = true) (hm:PySem.W.mroIn K C (.ref CE) = some true) (he:s.heap.get? e = some oe) (hc:oe.cls = .ref C) (h:Q true s):wpAny (model prog w) A (excMatches (.ref e) (.ref CE)) Q E s:=by
  obtain ⟨hh,g,d,tk,os⟩:=s
  have L1:=PySem.W.looks_typeIn (M:=model prog w) KX ht
  have L2:=PySem.W.looks_mroIn (M:=model prog w) KX hb
  have L3:=PySem.W.looks_mroIn (M:=model prog w) KX hm
  have L0:PySem.W.Looks (model prog w) hh (typeOf (.ref e)) (.ref C):=hc ▸ (PySem.W.Looks.ld he).andThen .now
  have f:=tc_notTuple
  have L4:PySem.W.Looks (model prog w) hh (isInstance (.ref CE) (.type "tuple")) false:=L1.andThen (PySem.W.Looks.of_pure f)
  have L5:PySem.W.Looks (model prog w) hh (isType (.ref CE)) true:=by
    obtain ⟨cd,z⟩:=Option.isSome_iff_exists.mp hcl
    unfold PySem.W.clsIn at z
    split at z
    · rename_i c' d' cd' sl' ho
      intro A' Q' E' s' k q
      unfold isType loadHead
      exact wpAny_bind (wpAny_loadPart (k _ _ (KX _ _ ho)) (wpAny_pure q))
    · cases z
  unfold excMatches
  refine wpAny_bind (m:=isInstance (.ref CE) (.type "tuple")) (L4.at ?_)
  refine wpAny_bind (m:=(pure [Value.ref CE]:Sem (List Value))) (wpAny_pure ?_)
  refine wpAny_bind ?_
  rw [List.forIn_cons]
  refine wpAny_bind (wpAny_bind (m:=isExcClass (.ref CE)) ?_)
  unfold isExcClass
  refine wpAny_bind (L5.at (L2.at ?_))
  refine wpAny_pure (wpAny_pure (a:=PUnit.unit) ?_)
  refine wpAny_bind (L0.at (wpAny_bind ?_))
  rw [List.forIn_cons]
  refine wpAny_bind (wpAny_bind (L3.at ?_))
  refine wpAny_pure (wpAny_pure (wpAny_pure h))
def Zhf (K:PySem.W.Frag) (CE:Addr) (i:Nat) (ts:Addr → TS) (D:Ends):St → XK:=fun σ1 cls dd H1 => ∃ C,cls = .ref C ∧ PySem.W.mroIn K C (.ref CE) = some true ∧
  ∀ e,H1 e = none → ts e { nx:=fun σ2 H2 => D.nx (σ2.set i none) H2,rt:=fun _ _ => False } (σ1.set i (some (.ref e))) (upd H1 e (ZhY e C dd))
def ZjF (K:PySem.W.Frag) (CE:Addr) (i:Nat) (tb:(St → XK) → List (Addr × Obj) → (Value → Shared → Prop) → TS) (ts:Addr → TS):TS:=fun D σ H => ∀ pn xe,tb (Zhf K CE i ts D) pn xe D σ H
structure CatC (K:PySem.W.Frag) (mg:Str → Option Value) (x:Str) (CE:Addr):Prop where
  mgx:mg x = some (.ref CE)
  ty:PySem.W.typeIn K (.ref CE) = some (.type "type")
  be:PySem.W.mroIn K CE (.type "BaseException") = some true
  cl:(PySem.W.clsIn K CE).isSome = true
theorem Zix {body:List Stmt} {b₀:Stmt} {suite:List Stmt} {cx n:Str} {np hpos pos:Pos} {i:Nat} {CE:Addr} {tb:(St → XK) → List (Addr × Obj) → (Value → Shared → Prop) → TS} {ts:Addr → TS} (cE:CatC X.K X.mg cx CE) (hN:X.N.Nodup) (hi:X.N[i]? = some n) (hl:X.env.scope.names.lookup n = some .local) (hg:Gl X cx)
    (hb:∀ (E:St → XK) (pn:List (Addr × Obj)) (xe:Value → Shared → Prop),Zfp (X.tryB pn xe) E → PSs (X.tryB pn xe) body (tb E pn xe)) (hs:∀ e,PSs (X.suite e) (b₀ :: suite) (ts e))
    (hstk:X.stack = X.env :: X.outer:=by rfl) (hf:X.env.frame = some X.env.locals:=by rfl) (hdb:(cx == ("__debug__" : Str)) = false:=by decide) :
    PS X (.Try body [.ExceptHandler (some (.Name cx np)) (some n) (b₀ :: suite) hpos] [] [] pos) (ZjF X.K CE i tb ts):=by
  intro pins s σ H D I h
  let EE:=Zhf X.K CE i ts D
  let XE:Value → Shared → Prop:=fun ev s' => ∃ σ1 H1 s1,Inv X pins σ1 H1 s1 ∧ CXx X.prog X.w X.stack H1 s1 (EE σ1) ev s'
  have pass:Zfp (X.tryB (X.pn ++ pins) XE) EE:=fun pins' σ1 H1 s1 ev s' I' h' => ⟨σ1,H1,s1,I'.untryB I.ok,h'⟩
  have back:∀ f s',SP (X.tryB (X.pn ++ pins) XE) [] D f s' → SP X pins D f s':=fun f s' q => by
    cases f with
    | next => obtain ⟨σ',H',J,q⟩:=q; exact ⟨σ',H',J.untryB I.ok,q⟩
    | brk => obtain ⟨σ',H',J,q⟩:=q; exact ⟨σ',H',J.untryB I.ok,q⟩
    | cont => obtain ⟨σ',H',J,q⟩:=q; exact ⟨σ',H',J.untryB I.ok,q⟩
    | ret u => obtain ⟨v,σ',H',J,r,q⟩:=q; exact ⟨v,σ',H',J.untryB I.ok,r,q⟩
  refine wpAny_Try_except (wpAny_mono (hb EE _ XE pass [] s σ H D (I.tryB XE) (h _ _)) (fun f s1 q => ?_) fun ev s2 hx => ?_)
  · have q':=back f s1 q
    cases f with
    | next => exact wpAny_execs_nil q'
    | brk => exact q'
    | cont => exact q'
    | ret u => exact q'
  obtain ⟨σ1,H1,s1,I1,e,t,cls,dd,H2,B,rfl,os,bare,U,a,in1,in2,C,rfl,hm,k⟩:=hx
  have hfr:=I.ok.frames
  rw [hstk] at hfr
  have a':Air X.prog X.w B (X.env :: X.outer) H2 s2.heap e t (.ref C) dd .none:=by rw [← hstk]; exact a
  refine a'.note hfr hf fun h4 a4 u4 => ?_
  refine Air.off (s:={ s2 with heap:=h4 }) a4 fun h5 a5 u5 => ?_
  have U5:=Zez U a.fr (u4.trans u5) a5.st in1 in2
  have I5:Inv X pins σ1 H2 { s2 with heap:=h5 }:=I1.call' (ch:=[]) os U5 a5.hok bare fun b z => absurd z (by simp)
  refine wpAny_handleBy_cons (codeAny_handlers_test (ZbJ (X:=X.suite e) (I5.suite e) hg cE.mgx ?_ hdb)) (by intro q; cases q)
  obtain ⟨oe,vs,T,oT,tvs,he5,hc5,_⟩:=id a5.tr
  refine ZeA (s:={ s2 with heap:=h5 }) I5.kIn cE.ty cE.be cE.cl hm he5 hc5 ?_
  refine codeAny_handlers_suite_as (Air.off (s:={ s2 with heap:=h5 }) a5 fun h6 a6 u6 => ?_)
  have U6:=Zez U a.fr ((u4.trans u5).trans u6) a6.st in1 in2
  have I6:Inv X pins σ1 H2 { s2 with heap:=h6 }:=I1.call' (ch:=[]) os U6 a6.hok bare fun b z => absurd z (by simp)
  obtain ⟨oe6,vs6,T6,oT6,tvs6,he6,hc6,hd6,hv6,_⟩:=id a6.tr
  have ne1:s1.heap.get? e = none:=by
    cases q:s1.heap.get? e with
    | none => rfl
    | some o =>
      by_cases hb:e ∈ frs X.stack
      · obtain ⟨_,o',z,nf⟩:=a6.fr.mem (by rw [hstk] at hb; exact hb)
        rw [he6] at z; cases z; exact absurd hv6 (nf _)
      · obtain ⟨o',z⟩:=in2 e o q hb
        rw [a.nb] at z; cases z
  have I7:=I6.track I1 ne1 a6.free he6 hc6 hd6 hv6
  refine ZbB (X:=X) (v:=.ref e) I7 hN hi (.inl hl) rfl (fun s8 I8 => ?_) (.inr hl)
  refine wpAny_mono (hs e pins s8 _ _ _ (I8.suite e) (k e a6.free)) (fun f s9 q => ?_) fun _ _ z => False.elim z
  cases f with
  | brk => obtain ⟨_,_,_,z⟩:=q; exact False.elim z
  | cont => obtain ⟨_,_,_,z⟩:=q; exact False.elim z
  | ret u => obtain ⟨_,_,_,_,_,z⟩:=q; exact False.elim z
  | next =>
    obtain ⟨σ9,H9,J,q⟩:=q
    have I9:=J.unsuite I.ok
    obtain ⟨m,hn,lk⟩:=id I9.loc
    refine wpAny_nameGoes_keeps hl hn (by rw [I.ok.kind]; rfl) fun h' v hn' sb => ?_
    exact ⟨_,_,I9.drop hN hi hn lk hn' sb,q⟩
end
end L2
namespace L2
open PySem PySem.Spec PyProof.Rows
inductive TyX (K:PySem.W.Frag) (H:Hp):V → Value → Prop where
  | of {x:V} {t:Value} (h:TyOf K H x t):TyX K H x t
  | exc {e C:Addr} (h:H e = some (ZhY e C none)) (c:XCls K C):TyX K H (.ref e) (.ref C)
inductive AskC (K:PySem.W.Frag) (H:Hp) (t:Value):V → Bool → Prop where
  | ty {T:String} {b:Bool} (h:PySem.W.kitOne K t (.type T) = some b):AskC K H t (.ty T) b
  | ref {C:Addr} {b:Bool} (h:PySem.W.kitOne K t (.ref C) = some b):AskC K H t (.ref C) b
  | tup {tp:Addr} {cs:List Addr} {b:Bool} (h:H tp = some (.tup (cs.map V.ref))) (q:PySem.W.kitAny K t (cs.map Value.ref) = some b):AskC K H t (.ref tp) b
theorem Zd2:∀ {cs:List Addr} {us:List Value},Vals (cs.map V.ref) us → us = cs.map Value.ref
  | [],_,.nil => rfl
  | _ :: _,_,.cons r t => by cases (show _ = Value.ref _ from r); rw [Zd2 t]; rfl
section
variable {X:Cx}
theorem Zat:CallR X (.builtin "isinstance") (fun xs H Q => ∃ x c t b,xs = [x,c] ∧ TyX X.K H x t ∧ AskC X.K H t c b ∧ Q (.bl b) H):=by
  intro pins s σ H xs us Q I r h
  obtain ⟨x,c,t,b,rfl,ty,ask,q⟩:=h
  obtain ⟨u,w',rfl,r1,r2⟩:=Zhv r
  have fin:∀ tk,EP X pins σ Q (.bool b) { s with toks:=tk }:=fun tk => ⟨.bl b,H,I.tok _,rfl,q⟩
  obtain ⟨G,Z,g,hb⟩:∃ G:Heap → Prop,PySem.W.KitX X.K u t G ∧ G s.heap ∧ u ≠ .builtin "__main__.__loader__#opaque" := by
    cases ty with
    | exc he c =>
      rename_i e C
      cases (show u = Value.ref e from r1)
      obtain ⟨⟨oe,vs,a1,a2,a3,a4⟩,_,_⟩:=(show ObjOk X.prog X.w H s.heap e (ZhY e C none) from I.hok e _ he)
      refine ⟨_,ZgS c,⟨oe,none,a1,a2,?_,?_⟩,fun z => nomatch z⟩
      · unfold PySem.W.notCls; rw [a4]
      · rw [a3]; trivial
    | of ty =>
      cases ty with
      | non => cases (show u = Value.none from r1); exact ⟨_,PySem.W.kitx_none,True.intro,fun z => nomatch z⟩
      | bl y => cases (show u = Value.bool y from r1); exact ⟨_,PySem.W.kitx_bool,True.intro,fun z => nomatch z⟩
      | int i => obtain ⟨t,q⟩:=(show ∃ t,u = Value.int i t from r1); cases q; exact ⟨_,PySem.W.kitx_int,True.intro,fun z => nomatch z⟩
      | str y => obtain ⟨t,q⟩:=(show ∃ t,u = Value.str y t from r1); cases q; exact ⟨_,PySem.W.kitx_str,True.intro,fun z => nomatch z⟩
      | flt y => obtain ⟨t,q⟩:=(show ∃ t,u = Value.float y t from r1); cases q; exact ⟨_,PySem.W.kitx_float,True.intro,fun z => nomatch z⟩
      | @lst a xs ea =>
        cases (show u = Value.ref a from r1)
        obtain ⟨_,_,n,_,h1⟩:=(show ObjOk X.prog X.w H s.heap a (.lst xs) from I.hok a _ ea)
        exact ⟨_,PySem.W.kitx_list,⟨_,h1,rfl⟩,fun z => nomatch z⟩
      | @frz a ob xs ea =>
        cases (show u = Value.ref a from r1)
        obtain ⟨_,_,_,n,_,h1⟩:=(show ObjOk X.prog X.w H s.heap a (.frz ob (.lst xs)) from I.hok a _ ea)
        exact ⟨_,PySem.W.kitx_list,⟨_,h1,rfl⟩,fun z => nomatch z⟩
      | @tup a xs ea =>
        cases (show u = Value.ref a from r1)
        obtain ⟨_,_,_,p⟩:=(show ObjOk X.prog X.w H s.heap a (.tup xs) from I.hok a _ ea)
        obtain ⟨o,h1,h2,_⟩:=p
        exact ⟨_,PySem.W.kitx_tuple,⟨o,h1,h2⟩,fun z => nomatch z⟩
      | @dK a kvs ea =>
        cases (show u = Value.ref a from r1)
        obtain ⟨_,_,vs,_,p⟩:=(show ObjOk X.prog X.w H s.heap a (.dK kvs) from I.hok a _ ea)
        obtain ⟨o,es,ep,h1,h2,_⟩:=p
        exact ⟨_,PySem.W.kitx_dict,⟨o,h1,h2.1⟩,fun z => nomatch z⟩
      | @dT a kvs ea =>
        cases (show u = Value.ref a from r1)
        obtain ⟨_,_,xs,_,o,es,ep,h1,h2,_⟩:=(show ObjOk X.prog X.w H s.heap a (.dT kvs) from I.hok a _ ea)
        exact ⟨_,PySem.W.kitx_dict,⟨o,h1,h2.1⟩,fun z => nomatch z⟩
      | @ins a C dx fs ea cl ha hn htk hm =>
        cases (show u = Value.ref a from r1)
        obtain ⟨mA,O,_⟩:=ZcF I.hok ea
        obtain ⟨od,J,_⟩:=O.look
        exact ⟨_,PySem.W.kitx_own (cl.get _) cl.hd ha hn htk hm,J,fun z => nomatch z⟩
  cases ask with
  | ty k => cases (show w' = Value.type _ from r2); exact PySem.W.kia_one Z I.kIn g k hb fin
  | ref k => cases (show w' = Value.ref _ from r2); exact PySem.W.kia_one Z I.kIn g k hb fin
  | @tup tp cs b ht k =>
    cases (show w' = Value.ref tp from r2)
    obtain ⟨_,its,rv,o,h1,h2,n,h3⟩:=(show ObjOk X.prog X.w H s.heap tp (.tup (cs.map V.ref)) from I.hok tp _ ht)
    obtain ⟨oc,od,odt,osl⟩:=o
    dsimp only at h2 h3
    subst h2 h3
    exact PySem.W.kia_tup Z I.kIn g h1 (by rw [Zd2 rv]; exact k) hb fin
end
theorem ZhO {K:PySem.W.Frag} {C D:Addr} {b:Bool} (hc:(PySem.W.clsIn K D).isSome = true) (ht:PySem.W.typeIn K (.ref D) = some (.type "type")) (hm:PySem.W.mroIn K C (.ref D) = some b) (hne:C ≠ D):PySem.W.kitOne K (.ref C) (.ref D) = some b:=by
  unfold PySem.W.kitOne PySem.W.kitCls
  rw [if_neg (fun z => hne (Value.ref.inj (beq_iff_eq.mp z)))]
  show (if ((PySem.W.clsIn K D).isSome && PySem.W.typeIn K (.ref D) == some (.type "type")) = true then PySem.W.subIn K (.ref C) (.ref D) else none) = some b
  rw [hc,ht]
  exact hm
theorem ZeZ {K:PySem.W.Frag} {C:Addr}:PySem.W.kitOne K (.ref C) (.ref C) = some true:=by
  unfold PySem.W.kitOne
  rw [if_pos (beq_iff_eq.mpr rfl)]
theorem ZhP {K:PySem.W.Frag} {C:Addr} {T:String} {b:Bool} (h1:PySem.W.kitMeta T = true) (hm:PySem.W.mroIn K C (.type T) = some b):PySem.W.kitOne K (.ref C) (.type T) = some b:=by
  unfold PySem.W.kitOne PySem.W.kitCls
  rw [if_neg (fun z => nomatch (beq_iff_eq.mp z:Value.ref C = Value.type T))]
  show (if PySem.W.kitMeta T = true then PySem.W.subIn K (.ref C) (.type T) else none) = some b
  rw [if_pos h1]
  exact hm
theorem Zi5 (K:PySem.W.Frag) {C:Addr} (hm:PySem.W.mroIn K C (.type "ValueError") = some true):PySem.W.kitOne K (.ref C) (.type "ValueError") = some true:=ZhP (by decide +kernel) hm
end L2
namespace L2
open PySem PySem.Spec PyProof.Rows
structure FunD (K:PySem.W.Frag) (x qual:Str) (st:Stmt) (f:Addr) (fd:FuncData) (T:Addr) (items:Array Value):Prop where
  ex:∃ (oc:Value) (od:Option Addr) (kV doc pm:Value) (an:Option Addr) (cdv ct:Value) (osl:Array (Option Value)),
    fd = PySem.W.fnOf x qual (Zbm st) (ZaU st) (Zag st) (.ref T) kV doc pm an cdv ct ∧ K.lookup f = some ⟨oc,od,.func fd,osl⟩ ∧ PySem.W.codeIn K cdv qual = true
  tp:∃ (tc:Value) (td:Option Addr) (n:Nat) (tsl:Array (Option Value)),K.lookup T = some ⟨tc,td,.seq items n,tsl⟩
  kp:PySem.W.keepIn K (.ref f) = true
section
variable {P:Program} {w:World} {K:PySem.W.Frag} {mg:Str → Option Value} {base:Heap} {x qual m:Str} {st:Stmt} {f C T:Addr} {fd:FuncData} {items:Array Value} {N ps:List Str} {k:Nat} {sp:Sp} {ds:List Value} {dvs:List V}
theorem FunD.ok (F:FunD K x qual st f fd T items) (S:FnScope N ps (Zag st)) (len:∀ vs H Q E,sp vs H Q E → vs.length = ps.length)
    (hbody:∀ (cdv:Value) (A:Around) (outer:List Env) (s:Shared) (H:Hp) (vs:List V) (Q:VK) (E:XK),Room k (A.deeper (envOfC qual (Zag st) s.heap.objs.size f cdv)) → sp vs H Q E →
      ∃ t,PSs (Zhc CX0 P w K mg base N qual (Zag st) f cdv A outer s H E).nox (ZaU st) t ∧ t { nx:=fun _ H' => Q .non H',rt:=Q } (start N vs) H):FnOk P w K mg base CX0 (k + 1) f fd ps sp:=by
  obtain ⟨oc,od,kV,doc,pm,an,cdv,ct,osl,rfl,lk,hcd⟩:=F.ex
  refine ZgL lk hcd S len fun A outer s H vs Q E hr hsp => ?_
  obtain ⟨t,h,q⟩:=hbody cdv A outer s H vs Q E hr hsp
  exact ⟨t,h.nox,q⟩
theorem FunD.okx (F:FunD K x qual st f fd T items) (S:FnScope N ps (Zag st)) (len:∀ vs H Q E,sp vs H Q E → vs.length = ps.length)
    (hbody:∀ (cdv:Value) (A:Around) (outer:List Env) (s:Shared) (H:Hp) (vs:List V) (Q:VK) (E:XK),Room k (A.deeper (envOfC qual (Zag st) s.heap.objs.size f cdv)) → sp vs H Q E →
      ∃ t,PSs (cxX P w K mg base N qual (Zag st) f cdv A outer s H E) (ZaU st) t ∧ t { nx:=fun _ H' => Q .non H',rt:=Q } (start N vs) H):FnOk P w K mg base (CXx P w) (k + 1) f fd ps sp:=by
  obtain ⟨oc,od,kV,doc,pm,an,cdv,ct,osl,rfl,lk,hcd⟩:=F.ex
  exact ZgL lk hcd S len fun A outer s H vs Q E hr hsp => hbody cdv A outer s H vs Q E hr hsp
theorem FunD.binds (F:FunD K x qual st f fd T items) (h:∀ (kV doc pm:Value) (an:Option Addr) (cdv ct:Value) (us:List Value),(us ++ ds).length = ps.length →
      ∃ g:Option (Array Value) → Sem (List (Str × Value)),bindArgs (PySem.W.fnOf x qual (Zbm st) (ZaU st) (Zag st) (.ref T) kV doc pm an cdv ct) ⟨us,[]⟩ = seqItems? (.ref T) >>= g ∧ g (some items) = pure (ps.zip (us ++ ds))):Binds K fd ps ds:=by
  obtain ⟨oc,od,kV,doc,pm,an,cdv,ct,osl,rfl,lk,hcd⟩:=F.ex
  obtain ⟨tc,td,n,tsl,lt⟩:=F.tp
  intro s us KX hl
  obtain ⟨g,h1,h2⟩:=h kV doc pm an cdv ct us hl
  exact .of_defaults rfl (KX _ _ lt) rfl h1 h2
structure HereD (K:PySem.W.Frag) (C:Addr) (m qual:Str) (st:Stmt) (items:Array Value):Prop where
  ex:∃ (f:Addr) (fd:FuncData) (T:Addr),FunD K m qual st f fd T items ∧ Meth K C m f
theorem HereD.hasM (h:HereD K C m qual st items) (hv:Vals dvs ds) (b:∀ f fd T,FunD K m qual st f fd T items → Binds K fd ps ds) (ok:∀ f fd T,FunD K m qual st f fd T items → FnOk P w K mg base CX0 k f fd ps sp):HasM P w K mg base C m k ps dvs sp :=
  let ⟨f,fd,T,F,M⟩:=h.ex
  ⟨f,fd,ds,ok f fd T F,M,b f fd T F,hv⟩
end
theorem ZfD {us:List Value} (h:us.length = 1):∃ a,us = [a]:=match us,h with | [a],_ => ⟨a,rfl⟩
theorem Zdu {us:List Value} (h:us.length = 2):∃ a b,us = [a,b]:=match us,h with | [a,b],_ => ⟨a,b,rfl⟩
theorem ZiQ {us:List Value} (h:us.length = 3):∃ a b c,us = [a,b,c]:=match us,h with | [a,b,c],_ => ⟨a,b,c,rfl⟩
end L2
namespace L2
open PySem PySem.Spec PyProof.Rows
section
variable {X:Cx} {pins:List (Addr × Obj)} {σ:St} {H:Hp} {s:Shared} {h':Heap} {fp:List Addr} {t':Nat}
theorem Inv.multi (I:Inv X pins σ H s) (hf:∀ b ∈ fp,Zer X pins H b) (k:∀ c o,c ∉ fp → s.heap.get? c = some o → h'.get? c = some o):Inv X pins σ H { s with heap:=h',toks:=t' }:=by
  refine I.call (ch:=fp) ⟨fun b o q n hb hx => k b o hx q,fun b o q n hb hx => ⟨o.slots,k b o hx q⟩,fun b o q n hx => n,fun b o q hx => ⟨o,k b o hx q⟩,fun _ _ q => q,fun _ _ _ q => q,fun b ps q => ⟨#[],by rw [q]; simp⟩⟩ (fun b u q => ?_) I.bare fun b hb => ?_
  · refine (I.hok b u q).stay (fun c v hc z => k c v (fun m => ?_) z) (fun _ z => z) fun _ _ z => z
    rcases hc with rfl | hc
    · rw [(hf c m).1] at q; cases q
    · rw [(hf c m).1] at hc; cases hc
  · obtain ⟨_,a,_,b,c,d⟩:=hf b hb
    exact ⟨b,a,c,d⟩
theorem Inv.multiT {T:Addr} {xs:List V} {its:List Value} (I:Inv X pins σ H s) (hf:∀ b ∈ fp,Zer X pins H b) (k:∀ c o,c ∉ fp → s.heap.get? c = some o → h'.get? c = some o) (hT:s.heap.objs.size ≤ T) (ht:IsTup h' T its.toArray) (r:Vals xs its) (hz:xs.length ≤ sizeLine) :
    Inv X pins σ (upd H T (.tup xs)) { s with heap:=h',toks:=t' }:=by
  have nT:=I.hok.fresh hT
  have nx:∀ b u,H b = some u → b ≠ T:=fun b u q z => by subst z; rw [nT] at q; cases q
  refine I.call (ch:=fp) ⟨fun b o q n hb hx => k b o hx q,fun b o q n hb hx => ⟨o.slots,k b o hx q⟩,fun b o q n hx => ?_,fun b o q hx => ⟨o,k b o hx q⟩,fun b _ q => by rw [Zan (nx b _ q)]; exact q,fun b _ _ q => by rw [Zan (nx b _ q)]; exact q,fun b ps q => ⟨#[],by rw [Zan (nx b _ q),q]; simp⟩⟩ (fun b u q => ?_) I.bare fun b hb => ?_
  · rw [Zan (Nat.ne_of_lt (Nat.lt_of_lt_of_le (Heap.lt_size q) hT))]; exact n
  · by_cases hb:b = T
    · subst hb
      rw [Zaf] at q
      cases q
      exact ⟨hz,its,r,ht⟩
    · rw [Zan hb] at q
      refine (I.hok b u q).stay (fun c v hc z => k c v (fun m => ?_) z) (fun c z => by rw [Zan (nx c _ z)]; exact z) fun c _ z => by rw [Zan (nx c _ z)]; exact z
      rcases hc with rfl | hc
      · rw [(hf c m).1] at q; cases q
      · rw [(hf c m).1] at hc; cases hc
  · obtain ⟨_,a,_,b,c,d⟩:=hf b hb
    exact ⟨b,a,c,d⟩
end
def Itz (K:PySem.W.Frag) (a b:Addr):It :=
  ⟨fun i H => ∃ xs ys x y,SqL K H a xs ∧ SqL K H b ys ∧ xs[i]? = some x ∧ ys[i]? = some y,
   fun i H v H' => ∃ T,H T = none ∧ v = .ref T ∧ ∃ x y,(∀ xs,SqL K H a xs → xs[i]? = some x) ∧ (∀ ys,SqL K H b ys → ys[i]? = some y) ∧ H' = upd H T (.tup [x,y]),
   fun i H => ∃ xs ys,SqL K H a xs ∧ SqL K H b ys ∧ (xs.length ≤ i ∨ ys.length ≤ i)⟩
theorem ZgU {P:Program} {w:World} {K:PySem.W.Frag} {elts:List Expr} {k0} {pos:Pos} {a b z TI TO i1 i2:Addr} (D:ZipApart z TI TO i1 i2 a b) :
    Turn P w K (.Tuple elts k0 pos) (Itz K a b) [z,TI,TO,i1,i2] z (fun i h => IsZip h z TI TO .none ∧ IsPair h TI (.ref i1) (.ref i2) ∧ (∃ p q,IsPair h TO p q) ∧ h.IsListIter i1 a i ∧ h.IsListIter i2 b i) where
  mem:=by simp
  obj:=fun i h ⟨hz,hTI,⟨p,q,hTO⟩,⟨o1,e1,_,d1⟩,⟨o2,e2,_,d2⟩⟩ c hc => by
    simp only [List.mem_cons,List.not_mem_nil,or_false] at hc
    rcases hc with rfl | rfl | rfl | rfl | rfl
    · exact ⟨_,hz,fun v e => nomatch (show Data.fields _ = Data.cell v from e)⟩
    · exact ⟨_,hTI,fun v e => nomatch (show Data.seq _ _ = Data.cell v from e)⟩
    · exact ⟨_,hTO,fun v e => nomatch (show Data.seq _ _ = Data.cell v from e)⟩
    · exact ⟨o1,e1,fun v e => by rw [d1] at e; cases e⟩
    · exact ⟨o2,e2,fun v e => by rw [d2] at e; cases e⟩
  keep:=fun i h h' ⟨hz,hTI,⟨p,q,hTO⟩,h1,h2⟩ k =>
    ⟨k z (by simp) _ hz,k TI (by simp) _ hTI,⟨p,q,k TO (by simp) _ hTO⟩,h1.at fun o e => k i1 (by simp) o e,h2.at fun o e => k i2 (by simp) o e⟩
  item:=by
    intro X hP hw hK hc i pins s σ H E I hf ⟨hz,hTI,⟨p,q,hTO⟩,h1,h2⟩ hg
    subst hP hw hK
    obtain ⟨xs,ys,x,y,hq1,hq2,hx,hy⟩:=hg
    obtain ⟨its,rv,pl,_⟩:=I.list hq1
    obtain ⟨jts,rw',pl2,_⟩:=I.list hq2
    obtain ⟨u,hu,ru⟩:=rv.get hx
    obtain ⟨v,hv,rw2⟩:=rw'.get hy
    refine wpAny_pyNext_zip_item D hz hTI hTO h1 h2 pl.isList pl2.isList (x:=u) (y:=v) (by simpa using hu) (by simpa using hv) fun h' a1 a2 a3 a4 a5 a6 a7 => ?_
    refine ⟨_,rfl,wpAny_letOwnedTupleGo_zip (s:={ s with heap:=h' }) a1 fun h2' b1 b2 => ?_⟩
    have kz:∀ c o,c ∉ [z,TI,TO,i1,i2] → s.heap.get? c = some o → h2'.get? c = some o:=fun c o hc e => by
      simp only [List.mem_cons,List.not_mem_nil,or_false,not_or] at hc
      obtain ⟨n1,n2,n3,n4,n5⟩:=hc
      exact b2.extBut _ _ n1 (a7 c o n1 n3 n4 n5 e)
    have nTz:s.heap.objs.size ≠ z:=Nat.ne_of_gt (Heap.lt_size hz)
    have fresh:=I.hok.fresh (Nat.le_refl s.heap.objs.size)
    have I2:Inv X pins σ (upd H s.heap.objs.size (.tup [x,y])) { s with heap:=h2' }:=I.multiT (t':=s.toks) (its:=[u,v]) hf kz (Nat.le_refl _) ⟨_,b2.extBut _ _ nTz a5,rfl,_,rfl⟩ (.cons ru (.cons rw2 .nil)) (by show 2 ≤ sizeLine; decide)
    refine ⟨.ref s.heap.objs.size,_,I2,rfl,⟨_,fresh,rfl,x,y,fun xs' e => by rw [I.list_inj e hq1]; exact hx,fun ys' e => by rw [I.list_inj e hq2]; exact hy,rfl⟩,⟨b1,?_,⟨u,v,?_⟩,a3.extBut b2.extBut D.i1z,a4.extBut b2.extBut D.i2z⟩,fun c hc => ?_⟩
    · exact b2.extBut _ _ D.TIz (a7 _ _ D.TIz D.TITO D.TIi1 D.TIi2 hTI)
    · exact b2.extBut _ _ D.TOz a2
    · have lt:c < s.heap.objs.size:=by
        simp only [List.mem_cons,List.not_mem_nil,or_false] at hc
        obtain ⟨_,e1,_⟩:=id h1
        obtain ⟨_,e2,_⟩:=id h2
        rcases hc with rfl | rfl | rfl | rfl | rfl
        · exact Heap.lt_size hz
        · exact Heap.lt_size hTI
        · exact Heap.lt_size hTO
        · exact Heap.lt_size e1
        · exact Heap.lt_size e2
      rw [Zan (Nat.ne_of_lt lt)]
      exact (hf c hc).1
  done:=by
    intro X hP hw hK hc i pins s σ H E I hf ⟨hz,hTI,⟨p,q,hTO⟩,h1,h2⟩ hg
    subst hP hw hK
    obtain ⟨xs,ys,hq1,hq2,hx⟩:=hg
    obtain ⟨its,rv,pl,_⟩:=I.list hq1
    obtain ⟨jts,rw',pl2,_⟩:=I.list hq2
    have l1:=rv.length
    have l2:=rw'.length
    refine wpAny_pyNext_zip_end (I.ok.hd hc) D hz hTI hTO h1 h2 pl.isList pl2.isList ?_ fun h' k => ⟨rfl,I.multi (t':=s.toks) hf fun c o hc e => ?_⟩
    · rcases hx with hx | hx
      · left; simp; omega
      · right; simp; omega
    · simp only [List.mem_cons,List.not_mem_nil,or_false,not_or] at hc
      obtain ⟨n1,n2,n3,n4,n5⟩:=hc
      exact k c o n1 n3 n4 n5 e
  self:=fun _ _ _ _ _ ⟨hz,_⟩ h => wpAny_pyIter_zip hz h
section
variable {X:Cx}
def ZjG (K:PySem.W.Frag) (ta:TA):TI:=fun σ H R => ta σ H fun vs H1 => ∃ a b,vs = [.ref a,.ref b] ∧ (∃ xs,SqL K H1 a xs) ∧ (∃ ys,SqL K H1 b ys) ∧ R (Itz K a b) H1
theorem Zhg {e1 e2:Expr} {elts:List Expr} {k0} {tpos:Pos} {ta:TA} {p pos:Pos} (hg:Gl X "zip") (hm:X.mg "zip" = none) (ha:PA X [e1,e2] ta) (hs:starEach [e1,e2] X.env = [(false,eval e1 X.env),(false,eval e2 X.env)]:=by rfl) (hs2:starEach [e2] X.env = [(false,eval e2 X.env)]:=by rfl) :
    PI X (.Tuple elts k0 tpos) (.Call (.Name "zip" p) [e1,e2] [] pos) (ZjG X.K ta):=by
  intro pins s σ H R I h
  refine wpAny_Call_Name_kw (ZdL I hg hm PyProof.Rows.Boot.«zip» (PyProof.Rows.callWith_type1 (thn (ha pos pins s σ H _ I h) fun us s1 ⟨vs,H1,I1,r1,q1⟩ => ?_) (by rw [hs,hs2]) (by rw [hs2]; rfl)))
  obtain ⟨a,b,e,⟨xs,hq1⟩,⟨ys,hq2⟩,q⟩:=q1
  subst e
  obtain ⟨u,v,rfl,ru,rv⟩:=Zhv r1
  cases (show u = Value.ref a from ru)
  cases (show v = Value.ref b from rv)
  obtain ⟨its,_,pl,_⟩:=I1.list hq1
  obtain ⟨jts,_,pl2,_⟩:=I1.list hq2
  have la:a < s1.heap.objs.size:=by obtain ⟨o,e,_⟩:=pl.isList; exact Heap.lt_size e
  have lb:b < s1.heap.objs.size:=by obtain ⟨o,e,_⟩:=pl2.isList; exact Heap.lt_size e
  refine call_zip_2 pl.isList pl2.isList fun h' hz hTI hTO h1 h2 hsz k => ?_
  refine wpAny_pyIter_zip (s:={ s1 with heap:=h' }) hz ?_
  refine ⟨_,[s1.heap.objs.size + 4,s1.heap.objs.size + 2,s1.heap.objs.size + 3,s1.heap.objs.size,s1.heap.objs.size + 1],_,_,H1,rfl,I1.kept (t':=s1.toks) k,ZgU (zipApart_new la lb),⟨hz,hTI,⟨_,_,hTO⟩,h1,h2⟩,fun c hc => ?_,q⟩
  have hc':s1.heap.objs.size ≤ c:=by
    simp only [List.mem_cons,List.not_mem_nil,or_false] at hc
    rcases hc with rfl | rfl | rfl | rfl | rfl <;> omega
  exact I1.fpOk hc' (I1.hok.fresh hc')
end
theorem Zgg {K:PySem.W.Frag} {a b:Addr} {xs ys:List V} {g:TG} {tb:TS} {D:Ends} {σ:St} {H:Hp} (Pv:Nat → St → Hp → Prop) (h0:Pv 0 σ H) (hl:∀ i σ H,Pv i σ H → SqL K H a xs ∧ SqL K H b ys)
    (hs:∀ i x y T σ H,xs[i]? = some x → ys[i]? = some y → H T = none → Pv i σ H → g (.ref T) σ (upd H T (.tup [x,y])) fun σ2 H2 => tb { D with nx:=Pv (i + 1),ct:=Pv (i + 1),bk:=D.nx } σ2 H2) (hd:∀ i σ H,i = min xs.length ys.length → Pv i σ H → D.nx σ H) :
    ∃ W:Nat → Nat → St → Hp → Prop,(∃ m,W 0 m σ H) ∧ ∀ i m σ H,W i m σ H →
      ((Itz K a b).stop i H ∧ D.nx σ H) ∨ ((Itz K a b).go i H ∧ ∃ N:St → Hp → Prop,(∀ σ' H',N σ' H' → ∃ m',m' < m ∧ W (i + 1) m' σ' H') ∧ ∀ x H',(Itz K a b).yld i H x H' → g x σ H' fun σ2 H2 => tb { D with nx:=N,ct:=N,bk:=D.nx } σ2 H2):=by
  refine ⟨fun i m σ H => m = min xs.length ys.length - i ∧ i ≤ min xs.length ys.length ∧ Pv i σ H,⟨_,rfl,Nat.zero_le _,h0⟩,?_⟩
  rintro i m σ H ⟨rfl,hi,p⟩
  obtain ⟨q1,q2⟩:=hl i σ H p
  by_cases hlt:i < min xs.length ys.length
  · have l1:i < xs.length:=by omega
    have l2:i < ys.length:=by omega
    refine .inr ⟨⟨xs,ys,xs[i],ys[i],q1,q2,by simp [l1],by simp [l2]⟩,Pv (i + 1),fun σ' H' p' => ⟨min xs.length ys.length - (i + 1),by omega,rfl,hlt,p'⟩,fun x H' y => ?_⟩
    obtain ⟨T,nT,rfl,u,v,e1,e2,rfl⟩:=y
    exact hs i u v T σ H (e1 xs q1) (e2 ys q2) nT p
  · exact .inl ⟨⟨xs,ys,q1,q2,by omega⟩,hd i σ H (by omega) p⟩
section
variable {caps:List (Nat × Str)} {te:TE}
end
end L2
namespace L2
open PySem PySem.Spec PyProof.Rows
def One1 (x y:V):Prop:=x = y ∧ ((∃ i,x = .int i) ∨ ∃ a,x = .ref a)
def EqD (K:PySem.W.Frag) (H:Hp):Nat → V → V → Prop
  | 0,x,y => One1 x y
  | n + 1,x,y => One1 x y ∨ ∃ a b xs ys,x = .ref a ∧ y = .ref b ∧ SqL K H a xs ∧ SqL K H b ys ∧ xs.length = ys.length ∧ ∀ (i:Nat) u v,xs[i]? = some u → ys[i]? = some v → EqD K H n u v
theorem One1.at {x y:V} {v u:Value} {A:Around} {s:Shared} (h:One1 x y) (rx:RelV x v) (ry:RelV y u):SeqAt.EqAt A s v u true:=by
  obtain ⟨rfl,⟨i,rfl⟩ | ⟨a,rfl⟩⟩:=h
  · obtain ⟨t1,rfl⟩:=rx
    obtain ⟨t2,rfl⟩:=ry
    have:=SeqAt.EqAt.int_int (A:=A) (s:=s) i t1 i t2
    simpa using this
  · cases rx
    cases ry
    exact SeqAt.EqAt.same _
theorem ZaY (n:Nat):(List.range n).all (fun _ => true) = true:=by simp
theorem EqD.at {X:Cx} {pins:List (Addr × Obj)} {σ:St} {H:Hp} {s:Shared} (I:Inv X pins σ H s):∀ (n:Nat) (A:Around) (x y:V) (v u:Value),A.units + n < cLine → EqD X.K H n x y → RelV x v → RelV y u → SeqAt.EqAt A s v u true
  | 0,A,x,y,v,u,_,h,rx,ry => One1.at h rx ry
  | n + 1,A,x,y,v,u,hu,h,rx,ry => by
    rcases h with h | ⟨a,b,xs,ys,rfl,rfl,hx,hy,hl,hi⟩
    · exact h.at rx ry
    · cases rx
      cases ry
      by_cases hab:a = b
      · subst hab
        exact SeqAt.EqAt.same _
      obtain ⟨its,r1,p1,_⟩:=I.list hx
      obtain ⟨jts,r2,p2,_⟩:=I.list hy
      have l1:=r1.length
      have l2:=r2.length
      refine SeqAt.EqAt.of_refs hab ?_
      have:=SeqAt.RcAt.lists (A:=A) (e:=fun _ => true) p1.isList p2.isList (by simp; omega) (by omega) (fun j h1 h2 => ?_)
      · rwa [ZaY] at this
      · have j1:j < xs.length:=by simp at h1; omega
        have j2:j < ys.length:=by simp at h2; omega
        obtain ⟨v1,e1,q1⟩:=r1.get (i:=j) (x:=xs[j]) (by simp [j1])
        obtain ⟨v2,e2,q2⟩:=r2.get (i:=j) (x:=ys[j]) (by simp [j2])
        have f1:its.toArray[j] = v1:=by
          have:its[j]? = some its.toArray[j]:=by simp at h1; simp [h1]
          rw [this] at e1; exact Option.some.inj e1
        have f2:jts.toArray[j] = v2:=by
          have:jts[j]? = some jts.toArray[j]:=by simp at h2; simp [h2]
          rw [this] at e2; exact Option.some.inj e2
        rw [f1,f2]
        exact EqD.at I n A.in1 _ _ _ _ (by show A.units + 1 + n < cLine; omega) (hi j _ _ (by simp [j1]) (by simp [j2])) q1 q2
def ZjH (K:PySem.W.Frag):R2:=fun x y H Q => ∃ a b xs ys,x = .ref a ∧ y = .ref b ∧ SqL K H a xs ∧ SqL K H b ys ∧ xs.length = ys.length ∧ (∀ (i:Nat) u v,xs[i]? = some u → ys[i]? = some v → EqD K H 8 u v) ∧ Q (.bl true) H
theorem Ziy {X:Cx} {k:Nat} (hr:Room k X.A):OpR X (compareOp .Eq) (ZjH X.K):=by
  intro pins s σ H x y v u Q I rx ry h
  obtain ⟨a,b,xs,ys,rfl,rfl,hx,hy,hl,hi,q⟩:=h
  cases rx
  cases ry
  obtain ⟨its,r1,p1,_⟩:=I.list hx
  obtain ⟨jts,r2,p2,_⟩:=I.list hy
  have l1:=r1.length
  have l2:=r2.length
  have hu:=hr.units
  refine SeqAt.eq_listAt (e:=fun _ => true) p1.isList p2.isList (by simp; omega) (by omega) (fun j h1 h2 => ?_) ?_
  · have j1:j < xs.length:=by simp at h1; omega
    have j2:j < ys.length:=by simp at h2; omega
    obtain ⟨v1,e1,q1⟩:=r1.get (i:=j) (x:=xs[j]) (by simp [j1])
    obtain ⟨v2,e2,q2⟩:=r2.get (i:=j) (x:=ys[j]) (by simp [j2])
    have f1:its.toArray[j] = v1:=by
      have:its[j]? = some its.toArray[j]:=by simp at h1; simp [h1]
      rw [this] at e1; exact Option.some.inj e1
    have f2:jts.toArray[j] = v2:=by
      have:jts[j]? = some jts.toArray[j]:=by simp at h2; simp [h2]
      rw [this] at e2; exact Option.some.inj e2
    rw [f1,f2]
    exact EqD.at I 8 _ _ _ _ _ (by show X.A.units + 1 + 8 < cLine; omega) (hi j _ _ (by simp [j1]) (by simp [j2])) q1 q2
  · refine ⟨.bl true,H,I,?_,q⟩
    show Value.bool _ = Value.bool _
    rw [ZaY]
def Bits (n:Nat) (i:Int):Prop:=Builtin.Int.intBits i ≤ n
theorem ZeB (i:Int):(PySem.W.WData.int i).weight = Builtin.Int.intBits i:=by
  simp only [PySem.W.WData.weight,Builtin.Int.intBits]
theorem Zdd:∀ (ns:List Int) (n:Nat),PySem.W.WData.weightAll (ns.map PySem.W.WData.int) ≤ n → ∀ i ∈ ns,Bits n i
  | [],_,_,_,h => nomatch h
  | j :: ns,n,hw,i,h => by
    simp only [List.map_cons,PySem.W.WData.weightAll] at hw
    rcases List.mem_cons.mp h with rfl | h
    · show Builtin.Int.intBits i ≤ n
      rw [← ZeB]; omega
    · exact Zdd ns n (by omega) i h
theorem Zd3 {l:PySem.W.OpenLaw} {n:Nat} {q:Program} {loose:List Str} {XP:(Str → Option Value) → Heap → Prop} {YP:World → Heap → Prop} {d:DefRec}
    (hn:l.most = some n) (hdf:d.params.defaults = [])
    (call:∀ (w:World) (s₀ s₁:Shared) (mg mb:Str → Option Value) (fa:Addr) (a:Addr) (vs:List Value) (ns:List Int),
      PySem.W.Ground q loose [] XP w s₀ mg mb s₁.heap → YP w s₁.heap → mg d.name = some (.ref fa) →
      s₁.heap.get? a = some { cls:=.type "list", data:=.seq vs.toArray } → IntsAre vs ns → ns.length ≤ n → (∀ i ∈ ns,Bits 1048576 i) → s₁.gens = #[] →
      codeAny (model l.prog w) callerA (.call (.ref fa) ⟨[.ref a],[]⟩) (fun r s' => r = .ok (.ret (.bool true)) ∧ OldK s₁.heap s'.heap ∧ s'.os = s₁.os ∧ AllBare s'.gens) s₁) :
    PySem.W.WalkO q loose XP YP l.row.toRowW d [] (fun f vs => PySem.call f vs):=by
  refine fun w s₀ s₁ mg mb G Y fa o pm cd doc dV kV ho hd hcd hD hmg hg args vals as hpre hlay hrd hwl hlo => ?_
  have hb:∀ (a:Addr) (vs:List Value) (ns:List Int),vals = [Value.ref a] → args = [PySem.W.WData.list (ns.map PySem.W.WData.int)] → ∀ i ∈ ns,Bits 1048576 i:=by
    rintro a vs ns - rfl
    refine Zdd ns _ ?_
    have h1:(PySem.W.WData.list (ns.map PySem.W.WData.int)).layable = true:=(PySem.W.layW_cons hlay).1
    unfold PySem.W.WData.layable at h1
    simp only [Bool.and_eq_true,decide_eq_true_eq] at h1
    have:=h1.2
    simp only [PySem.W.WData.weight] at this
    exact this
  obtain rfl:dV = .none:=PySem.W.Dflts.none hD hdf
  obtain rfl:kV = .none:=PySem.W.Dflts.noKw hD
  obtain ⟨a,vs,ns,rfl,rfl,hobj,hints,hlen⟩:=Att.script_of hn hpre hwl
  refine PySem.W.enter_call (codeAny_mono (call w s₀ s₁ mg mb fa a vs ns G Y hmg hobj hints hlen (hb a vs ns rfl rfl) hg) fun r s' hq => ?_)
  obtain ⟨rfl,h2,h3,h4⟩:=hq
  exact ⟨.inl ⟨.bool true,.bool true,[],rfl,fun _ => rfl,.bool true,Att.post_true l _,fun _ => ⟨List.Pairwise.nil,fun _ hm => (nomatch hm)⟩⟩,h2,h3,h4⟩
theorem walk_ofB {l:PySem.W.OpenLaw} {n k:Nat} {q:Program} {loose:List Str} {XP:(Str → Option Value) → Heap → Prop} {YP:World → Heap → Prop} {d:DefRec} {K:Params → PySem.W.Frag} {CX:World → CXT} {sp:World → Sp} {x:Str}
    (hn:l.most = some n) (hn2:n ≤ sizeLine) (hdf:d.params.defaults = []) (hr:Room k callerA)
    (hY:∀ (w:World) (h:Heap),YP w h → (K w.params).In h)
    (F:∀ (w:World) (mg:Str → Option Value) (fa:Addr) (h:Heap),(K w.params).In h → h.Ns mainGlobals mg → mg d.name = some (.ref fa) →
      ∃ fd:FuncData,(∀ (s:Shared) (u:Value),BindsTo s fd ⟨[u],[]⟩ [(x,u)]) ∧
        ∀ base:Heap,(K w.params).In base → base.Ns mainGlobals mg → FnOk l.prog w (K w.params) mg base (CX w) k fa fd [x] (sp w))
    (hsp:∀ (w:World) (H:Hp) (a:Addr) (ns:List Int),ns.length ≤ n → (∀ i ∈ ns,Bits 1048576 i) → ZiP H → SqL (K w.params) H a (ns.map V.int) → sp w [.ref a] H (fun v _ => v = .bl true) fun _ _ _ => False)
    (hCX:∀ (w:World) (H:Hp) (s:Shared) (e:Value) (s':Shared),CX w [] H s (fun _ _ _ => False) e s' → False) :
    PySem.W.WalkO q loose XP YP l.row.toRowW d [] (fun f vs => PySem.call f vs):=by
  refine Zd3 hn hdf fun w s₀ s₁ mg mb fa a vs ns G Y hmg hobj hints hlen hbits hg => ?_
  have KX:=hY w _ Y
  obtain ⟨fd,hb,hF⟩:=F w mg fa _ KX G.T.g hmg
  exact ZeT KX G.T.g G.T.b G.T.builtins G.T.nolimit hg hobj hints (Nat.le_trans hlen hn2) hr hF hb (fun H hO hS => hsp w H a ns hlen hbits hO hS) fun H e s' => hCX w H s₁ e s'
theorem Bits.lt {n:Nat} {i:Int} (h:Bits n i):i.natAbs < 2 ^ n:=by
  unfold Bits Builtin.Int.intBits at h
  by_cases h0:i = 0
  · subst h0; exact Nat.pos_of_ne_zero (by simp)
  · have:i.natAbs.log2 + 1 ≤ n:=by simpa [h0] using h
    exact (Nat.log2_lt (by omega)).mp (by omega)
theorem Bits.of {n:Nat} {i:Int} (h:i.natAbs < 2 ^ n):Bits n i:=Zev h
theorem Bits.cell {n:Nat} {c k:Int} (h:Bits n c) (h0:0 ≤ k) (h1:k < 256):Bits (n + 17) (c * (k + 2) + k * k):=by
  refine Bits.of ?_
  have hc:=h.lt
  have e1:(c * (k + 2)).natAbs ≤ c.natAbs * 258:=by
    rw [Int.natAbs_mul]
    exact Nat.mul_le_mul_left _ (by omega)
  have e2:(k * k).natAbs ≤ 256 * 256:=by
    rw [Int.natAbs_mul]
    exact Nat.mul_le_mul (by omega) (by omega)
  have e3:2 ^ (n + 17) = 2 ^ n * 131072:=by rw [Nat.pow_add]
  have e4:1 ≤ 2 ^ n:=Nat.pos_of_ne_zero (by simp)
  rw [e3]
  generalize 2 ^ n = P at *
  omega
theorem Bits.mono {m n:Nat} {i:Int} (h:Bits m i) (hm:m ≤ n):Bits n i:=Nat.le_trans h hm
theorem Bits.mul {i j:Int} (h:Bits 2097152 i) (h':Bits 2097152 j):IntMulOk i j:=by
  have h1:Builtin.Int.intBits i ≤ 2097152:=h
  have h2:Builtin.Int.intBits j ≤ 2097152:=h'
  have h3:Builtin.Int.intTooBig (Builtin.Int.intBits i + Builtin.Int.intBits j) = false:=by
    unfold Builtin.Int.intTooBig
    rw [bitsLine_eq]
    exact decide_eq_false (by omega)
  unfold IntMulOk
  rw [h3]
  simp
end L2
namespace L2
open PySem PySem.Spec PyProof.Rows
section
variable {X:Cx}
theorem ZgV (K:PySem.W.Frag) (h:X.K = K):IxR X (Zjf K):=by subst h; exact ZaB
theorem ZaP (K:PySem.W.Frag) (h:X.K = K):CallR X (.builtin "len") (fun xs H Q => ∃ p ys,xs = [.ref p] ∧ (SqL K H p ys ∨ SqT K H p ys) ∧ Q (.int ys.length) H):=by subst h; exact Zao
theorem Zdv (K:PySem.W.Frag) (h:X.K = K):CallR X (.type "list") (fun xs H Q => ∃ p ys,xs = [.ref p] ∧ (SqL K H p ys ∨ SqT K H p ys) ∧ ∀ l,H l = none → Q (.ref l) (upd H l (.lst ys))):=by subst h; exact ZdV
theorem ZgW (K:PySem.W.Frag) (h:X.K = K) {tg l:Expr} {tl:TE} (hl:PE X l tl):PI X tg l (Zif K tl):=by subst h; exact ZaF hl
structure CxIs (X:Cx) (P:Program) (w:World) (K:PySem.W.Frag) (mg:Str → Option Value) (base:Heap):Prop where
  p:X.prog = P
  w:X.w = w
  k:X.K = K
  m:X.mg = mg
  b:X.base = base
variable {o e:Expr} {es:List Expr} {m:Str} {apos pos:Pos} {ta:TE} {t:TA} {k:Nat} {E:St → XK}
end
end L2
namespace L2
open PySem PySem.Spec PyProof.Rows
end L2
namespace L2
open PySem PySem.Spec PyProof.Rows
section
variable {X:Cx}
theorem Zcm:∀ {ns:List Int} {us:List Value},Vals (ns.map V.int) us → IntsAre us ns
  | [],_,.nil => .nil
  | _ :: _,_,.cons r t => by obtain ⟨k,rfl⟩:=r; exact .cons _ _ (Zcm t)
theorem ZgX (hc:X.calm = true):CallR X (.builtin "sum") (fun xs H Q => ∃ (p:Addr) (ns:List Int),xs = [.ref p] ∧ SqL X.K H p (ns.map V.int) ∧ Q (.int ns.sum) H):=by
  intro pins s σ H xs us Q I r h
  obtain ⟨p,ns,rfl,hq,q⟩:=h
  obtain ⟨u,rfl,rx⟩:=Zb4 r
  cases rx
  obtain ⟨its,r',pl,hz⟩:=I.list hq
  have hi:=Zcm r'
  obtain ⟨xs,e⟩:=hi.allInts.items
  have hs:(numsOf its).sum = ns.sum:=by rw [hi.numsOf]
  have e2:its = (intItems xs).toList:=by rw [← e]
  rw [e2,nums_intItems] at hs
  refine sum_intListG (xs:=xs) (I.ok.hd hc) (by rw [← e]; exact pl.isList) fun h' tk t' hk => ?_
  rw [preSum_eq,List.take_of_length_le (by simp)]
  rw [hs]
  exact ⟨.int ns.sum,H,I.kept hk,⟨t',rfl⟩,q⟩
end
end L2
namespace L2
open PySem PySem.Spec PyProof.Rows
structure OneCell (scope:Scope) (x0:Str):Prop where
  one:∀ y ∈ scope.names,y.2 = .cell → y.1 = x0
  lk:scope.names.lookup x0 = some .cell
  cf:∀ n acc,cellsFrom n scope.names acc = (x0,n) :: acc
  pc:∀ h,pushCells h scope.names = h.push { cls:=.type "cell", data:=.cell none }
section
variable {X:Cx} {tg iter elt:Expr} {scope:Scope} {pos:Pos} {wi:TI} {g:TG} {te:TE} {own:List Str} {caps:List (Nat × Str)} {x0:Str}
end
end L2
namespace L2
open PySem PySem.Spec PyProof.Rows
section
variable {X:Cx} {k:Nat} {f C:Addr} {fd:FuncData} {ps:List Str} {sp:Sp} {dvs:List V} {ds:List Value} {E:St → XK} {x:Str} {p pos:Pos} {e:Expr} {es:List Expr} {t:TA}
end
end L2
namespace L2
open PySem PySem.Spec PyProof.Rows
@[irreducible] def PEI (X:Cx) (e:Expr) (t:TE):Prop:=PE X e t
@[irreducible] def PSI (X:Cx) (st:Stmt) (t:TS):Prop:=PS X st t
@[irreducible] def PSsI (X:Cx) (st:List Stmt) (t:TS):Prop:=PSs X st t
section
variable {X:Cx} {st:Stmt} {ZfF:List Stmt} {t u:TS} {e:Expr} {te:TE} {pos:Pos}
theorem pei (h:PE X e te):PEI X e te:=by unfold PEI; exact h
end
end L2
namespace L2
open PySem PySem.Spec PyProof.Rows
theorem Zde:∀ {bs:List Bool} {us:List Value},Vals (bs.map V.bl) us → us = bs.map Value.bool
  | [],_,.nil => rfl
  | _ :: _,_,.cons r t => by rw [show _ = Value.bool _ from r,Zde t]; rfl
theorem Zgh (bs:List Bool):(List.range bs.length).all (fun i => bs.getD i true) = bs.all id:=by
  rw [Bool.eq_iff_iff,List.all_eq_true,List.all_eq_true]
  constructor
  · intro h b hb
    obtain ⟨i,hi,rfl⟩:=List.getElem_of_mem hb
    have:=h i (List.mem_range.mpr hi)
    rwa [List.getD_eq_getElem?_getD,List.getElem?_eq_getElem hi] at this
  · intro h i hi
    have hi:=List.mem_range.mp hi
    rw [List.getD_eq_getElem?_getD,List.getElem?_eq_getElem hi]
    exact h _ (List.getElem_mem hi)
section
variable {X:Cx}
theorem Ze0 (hc:X.calm = true):CallR X (.builtin "all") (fun xs H Q => ∃ (p:Addr) (bs:List Bool),xs = [.ref p] ∧ SqL X.K H p (bs.map V.bl) ∧ Q (.bl (bs.all id)) H):=by
  intro pins s σ H xs us Q I r h
  obtain ⟨p,bs,rfl,hq,q⟩:=h
  obtain ⟨u,rfl,rx⟩:=Zb4 r
  cases rx
  obtain ⟨its,r',pl,hz⟩:=I.list hq
  obtain rfl:=Zde r'
  have hd:X.A.in1.handled = none:=I.ok.hd hc
  refine call_all_walk (PySem.Flt.iter_list_ pl.isList fun s2 e st lt ne => ?_)
  subst e
  refine ⟨_,_,_,_,_,_,fun i => bs.getD i true,rfl,Walks.list hd _ _ ne _,st,?_,fun h' tk hk => ?_⟩
  · intro i v s' Q' E' hv hq'
    have e:v = .bool (bs.getD i true):=by
      have:(bs.map Value.bool)[i]? = some v:=by simpa using hv
      rw [List.getElem?_map] at this
      cases e:bs[i]? with
      | none => rw [e] at this; cases this
      | some b => rw [e] at this; cases this; rw [List.getD_eq_getElem?_getD,e]; rfl
    rw [e]
    exact wpAny_truthy_bool hq'
  · have e:(bs.map Value.bool).toArray.size = bs.length:=by simp
    rw [e,Zgh]
    refine ⟨.bl (bs.all id),H,I.kept fun b o hb => ?_,rfl,q⟩
    refine hk b o ?_ (Heap.get?_push_of_some _ hb)
    intro z
    rw [List.mem_singleton.mp z] at hb
    exact absurd (Heap.lt_size hb) (Nat.lt_irrefl _)
end
def Fl (H:Hp) (x:V) (d:PyData):Prop:=(x = .non ∧ d = .none) ∨ (∃ b,x = .bl b ∧ d = .bool b) ∨ (∃ i,x = .int i ∧ d = .int i) ∨ (∃ y,x = .str y ∧ d = .str y) ∨ (∃ a,x = .ref a ∧ d = .dict [] ∧ H a = some (.dK []))
def Rp (H:Hp):Nat → V → PyData → Prop
  | 0,x,d => Fl H x d
  | n + 1,x,d => Fl H x d ∨ (∃ a xs ds,x = .ref a ∧ d = .list ds ∧ H a = some (.lst xs) ∧ xs.length = ds.length ∧ ∀ (i:Nat) u e,xs[i]? = some u → ds[i]? = some e → Rp H n u e) ∨
      (∃ a xs ds,x = .ref a ∧ d = .tuple ds ∧ H a = some (.tup xs) ∧ xs.length = ds.length ∧ ∀ (i:Nat) u e,xs[i]? = some u → ds[i]? = some e → Rp H n u e)
theorem Fl.same {H H':Hp} {x:V} {d:PyData} (h:Fl H x d) (S:Same H H'):Fl H' x d:=by
  rcases h with h | h | h | h | ⟨a,e1,e2,h⟩
  · exact .inl h
  · exact .inr (.inl h)
  · exact .inr (.inr (.inl h))
  · exact .inr (.inr (.inr (.inl h)))
  · exact .inr (.inr (.inr (.inr ⟨a,e1,e2,S _ _ h⟩)))
theorem Rp.same {H H':Hp} (S:Same H H'):∀ {n:Nat} {x:V} {d:PyData},Rp H n x d → Rp H' n x d
  | 0,_,_,h => Fl.same h S
  | n + 1,x,d,h => by
    rcases h with h | ⟨a,xs,ds,e1,e2,h,l,r⟩ | ⟨a,xs,ds,e1,e2,h,l,r⟩
    · exact .inl (Fl.same h S)
    · exact .inr (.inl ⟨a,xs,ds,e1,e2,S _ _ h,l,fun i u e a b => Rp.same S (r i u e a b)⟩)
    · exact .inr (.inr ⟨a,xs,ds,e1,e2,S _ _ h,l,fun i u e a b => Rp.same S (r i u e a b)⟩)
theorem Rp.up {H:Hp}:∀ {n:Nat} {x:V} {d:PyData},Rp H n x d → Rp H (n + 1) x d
  | 0,_,_,h => .inl h
  | n + 1,x,d,h => by
    rcases h with h | ⟨a,xs,ds,e1,e2,h,l,r⟩ | ⟨a,xs,ds,e1,e2,h,l,r⟩
    · exact .inl h
    · exact .inr (.inl ⟨a,xs,ds,e1,e2,h,l,fun i u e a b => Rp.up (r i u e a b)⟩)
    · exact .inr (.inr ⟨a,xs,ds,e1,e2,h,l,fun i u e a b => Rp.up (r i u e a b)⟩)
theorem Rp.mono {H:Hp} {x:V} {d:PyData} {n m:Nat} (h:Rp H n x d) (l:n ≤ m):Rp H m x d:=by
  induction m with
  | zero => obtain rfl:n = 0:=by omega
            exact h
  | succ m ih =>
    by_cases e:n = m + 1
    · subst e; exact h
    · exact (ih (by omega)).up
section
variable {X:Cx} {pins:List (Addr × Obj)} {σ:St} {H:Hp} {s:Shared}
theorem Ziz (I:Inv X pins σ H s) {a:Addr} (h:H a = some (.dK [])):(a == sysModules) = false ∧ s.heap.DictOf (ZbI X.prog X.w) a []:=by
  obtain ⟨_,z,vs,kv,p⟩:=(show ObjOk X.prog X.w H s.heap a (.dK []) from I.hok a _ h)
  cases kv
  exact ⟨z,p⟩
theorem Zcu {P P':Program} {w w':World} {h:Heap} {a:Addr} (d:h.DictOf (ZbI P w) a []):h.DictOf (ZbI P' w') a []:=by
  obtain ⟨o,es,ep,h1,h2,h3,h4,h5,h6⟩:=d
  refine ⟨o,es,ep,h1,h2,h3,?_,?_,h6⟩
  · have:es.toList = []:=by cases q:es.toList with
      | nil => rfl
      | cons x r => rw [q] at h5; cases h5
    intro e he
    rw [Array.mem_def,this] at he
    cases he
  · cases q:es.toList with
    | nil => exact .nil
    | cons x r => rw [q] at h5; cases h5
theorem Fl.rc {A:Around} {x y:V} {v u:Value} {d:PyData} (I:Inv X pins σ H s) (hu:A.units < cLine) (hx:Fl H x d) (hy:Fl H y d) (rx:RelV x v) (ry:RelV y u):SeqAt.RcAt A s v u true ∧ SeqAt.RcNeAt A s v u false:=by
  rcases hx with ⟨rfl,rfl⟩ | ⟨b,rfl,rfl⟩ | ⟨i,rfl,rfl⟩ | ⟨z,rfl,rfl⟩ | ⟨a,rfl,rfl,ha⟩ <;> rcases hy with ⟨rfl,e⟩ | ⟨b',rfl,e⟩ | ⟨i',rfl,e⟩ | ⟨z',rfl,e⟩ | ⟨a',rfl,e,ha'⟩ <;> cases e
  · cases rx; cases ry; exact ⟨SeqAt.RcAt.none_none,SeqAt.RcNeAt.none_none⟩
  · cases rx; cases ry
    exact ⟨by have:=SeqAt.RcAt.bool_bool (A:=A) (s:=s) b b; simpa using this,by have:=SeqAt.RcNeAt.bool_bool (A:=A) (s:=s) b b; simpa using this⟩
  · obtain ⟨t1,rfl⟩:=rx
    obtain ⟨t2,rfl⟩:=ry
    exact ⟨by have:=SeqAt.RcAt.int_int (A:=A) (s:=s) i t1 i t2; simpa using this,by have:=SeqAt.RcNeAt.int_int (A:=A) (s:=s) i t1 i t2; simpa using this⟩
  · obtain ⟨t1,rfl⟩:=rx
    obtain ⟨t2,rfl⟩:=ry
    exact ⟨by have:=SeqAt.RcAt.str_str (A:=A) (s:=s) z t1 z t2; simpa using this,by have:=SeqAt.RcNeAt.str_str (A:=A) (s:=s) z t1 z t2; simpa using this⟩
  · cases rx; cases ry
    obtain ⟨n1,d1⟩:=Ziz I ha
    obtain ⟨n2,d2⟩:=Ziz I ha'
    refine ⟨fun prog w E Q q => ?_,fun prog w E Q q => ?_⟩
    · exact PySem.W.keq_eq (knd:=ZbI prog w) (r:=true) n1 n2 (Zcu d1) (Zcu d2) hu (fun _ => .nil) q
    · exact PySem.W.keq_ne (knd:=ZbI prog w) (r:=true) n1 n2 (Zcu d1) (Zcu d2) hu (fun _ => .nil) q
theorem Fl.at {A:Around} {x y:V} {v u:Value} {d:PyData} (I:Inv X pins σ H s) (hu:A.units < cLine) (hx:Fl H x d) (hy:Fl H y d) (rx:RelV x v) (ry:RelV y u):SeqAt.EqAt A s v u true:=by
  have rc:=(Fl.rc I hu hx hy rx ry).1
  rcases hx with ⟨rfl,rfl⟩ | ⟨b,rfl,rfl⟩ | ⟨i,rfl,rfl⟩ | ⟨z,rfl,rfl⟩ | ⟨a,rfl,rfl,ha⟩ <;> rcases hy with ⟨rfl,e⟩ | ⟨b',rfl,e⟩ | ⟨i',rfl,e⟩ | ⟨z',rfl,e⟩ | ⟨a',rfl,e,ha'⟩ <;> cases e
  · cases rx; cases ry; exact SeqAt.EqAt.same _
  · cases rx; cases ry; exact SeqAt.EqAt.same _
  · obtain ⟨t1,rfl⟩:=rx
    obtain ⟨t2,rfl⟩:=ry
    have:=SeqAt.EqAt.int_int (A:=A) (s:=s) i t1 i t2
    simpa using this
  · obtain ⟨t1,rfl⟩:=rx
    obtain ⟨t2,rfl⟩:=ry
    have:=SeqAt.EqAt.str_str (A:=A) (s:=s) z t1 z t2
    simpa using this
  · cases rx; cases ry
    by_cases hab:a = a'
    · subst hab; exact SeqAt.EqAt.same _
    · exact SeqAt.EqAt.of_refs hab rc
theorem Vals.at2 {xs:List V} {its:List Value} (r:Vals xs its) {j:Nat} (h:j < its.toArray.size):∃ x,xs[j]? = some x ∧ RelV x its.toArray[j]:=by
  have l:=r.length
  have j1:j < xs.length:=by simp at h; omega
  obtain ⟨v1,e1,q1⟩:=r.get (i:=j) (x:=xs[j]) (by simp [j1])
  have f1:its.toArray[j] = v1:=by
    have:its[j]? = some its.toArray[j]:=by simp at h; simp [h]
    rw [this] at e1; exact Option.some.inj e1
  exact ⟨xs[j],by simp [j1],by rw [f1]; exact q1⟩
theorem ZbV {α β:Type} {xs:List α} {ds:List β} {j:Nat} {x:α} (h:xs[j]? = some x) (l:xs.length = ds.length):∃ d,ds[j]? = some d:=by
  have:=(List.getElem?_eq_some_iff.mp h).1
  exact ⟨ds[j]'(by omega),List.getElem?_eq_getElem (by omega)⟩
theorem Rp.both (I:Inv X pins σ H s):∀ (n:Nat) (A:Around) (x y:V) (v u:Value) (d:PyData),A.units + n < cLine → Rp H n x d → Rp H n y d → RelV x v → RelV y u → SeqAt.EqAt A s v u true ∧ SeqAt.RcAt A s v u true ∧ SeqAt.RcNeAt A s v u false
  | 0,A,x,y,v,u,d,hu,hx,hy,rx,ry => ⟨Fl.at I hu hx hy rx ry,Fl.rc I hu hx hy rx ry⟩
  | n + 1,A,x,y,v,u,d,hu,hx,hy,rx,ry => by
    have hu0:A.units < cLine:=by omega
    rcases hx with hx | ⟨a,xs,ds,rfl,rfl,ha,hl,hi⟩ | ⟨a,xs,ds,rfl,rfl,ha,hl,hi⟩
    · have hy':Fl H y d:=by
        rcases hy with hy | ⟨b,ys,es,rfl,rfl,hb,hm,hj⟩ | ⟨b,ys,es,rfl,rfl,hb,hm,hj⟩
        · exact hy
        · rcases hx with ⟨_,e⟩ | ⟨_,_,e⟩ | ⟨_,_,e⟩ | ⟨_,_,e⟩ | ⟨_,_,e,_⟩ <;> cases e
        · rcases hx with ⟨_,e⟩ | ⟨_,_,e⟩ | ⟨_,_,e⟩ | ⟨_,_,e⟩ | ⟨_,_,e,_⟩ <;> cases e
      exact ⟨Fl.at I hu0 hx hy' rx ry,Fl.rc I hu0 hx hy' rx ry⟩
    · obtain ⟨b,ys,rfl,hb,hm,hj⟩:∃ b ys,y = .ref b ∧ H b = some (.lst ys) ∧ ys.length = ds.length ∧ ∀ (i:Nat) u e,ys[i]? = some u → ds[i]? = some e → Rp H n u e:=by
        rcases hy with hy | ⟨b,ys,es,e1,e2,hb,hm,hj⟩ | ⟨b,ys,es,e1,e2,hb,hm,hj⟩
        · rcases hy with ⟨_,e⟩ | ⟨_,_,e⟩ | ⟨_,_,e⟩ | ⟨_,_,e⟩ | ⟨_,_,e,_⟩ <;> cases e
        · cases e2; exact ⟨b,ys,e1,hb,hm,hj⟩
        · cases e2
      cases rx
      cases ry
      obtain ⟨its,r1,p1,_⟩:=I.list (SqL.of ha)
      obtain ⟨jts,r2,p2,_⟩:=I.list (SqL.of hb)
      have l1:=r1.length
      have l2:=r2.length
      have el:∀ (j:Nat) (h1:j < its.toArray.size) (h2:j < jts.toArray.size),SeqAt.EqAt A.in1 s its.toArray[j] jts.toArray[j] true:=fun j h1 h2 => by
        obtain ⟨x1,g1,q1⟩:=r1.at2 h1
        obtain ⟨x2,g2,q2⟩:=r2.at2 h2
        obtain ⟨d,gd⟩:=ZbV g1 hl
        exact (Rp.both I n A.in1 _ _ _ _ d (by show A.units + 1 + n < cLine; omega) (hi j _ _ g1 gd) (hj j _ _ g2 gd) q1 q2).1
      have rc:=SeqAt.RcAt.lists (A:=A) (e:=fun _ => true) p1.isList p2.isList (by simp; omega) hu0 el
      have rn:=SeqAt.RcNeAt.lists (A:=A) (e:=fun _ => true) p1.isList p2.isList (by simp; omega) hu0 el
      rw [ZaY] at rc rn
      refine ⟨?_,rc,rn⟩
      by_cases hab:a = b
      · subst hab; exact SeqAt.EqAt.same _
      · exact SeqAt.EqAt.of_refs hab rc
    · obtain ⟨b,ys,rfl,hb,hm,hj⟩:∃ b ys,y = .ref b ∧ H b = some (.tup ys) ∧ ys.length = ds.length ∧ ∀ (i:Nat) u e,ys[i]? = some u → ds[i]? = some e → Rp H n u e:=by
        rcases hy with hy | ⟨b,ys,es,e1,e2,hb,hm,hj⟩ | ⟨b,ys,es,e1,e2,hb,hm,hj⟩
        · rcases hy with ⟨_,e⟩ | ⟨_,_,e⟩ | ⟨_,_,e⟩ | ⟨_,_,e⟩ | ⟨_,_,e,_⟩ <;> cases e
        · cases e2
        · cases e2; exact ⟨b,ys,e1,hb,hm,hj⟩
      cases rx
      cases ry
      obtain ⟨its,r1,p1,_⟩:=I.tuple (SqT.of ha)
      obtain ⟨jts,r2,p2,_⟩:=I.tuple (SqT.of hb)
      have l1:=r1.length
      have l2:=r2.length
      have el:∀ (j:Nat) (h1:j < its.toArray.size) (h2:j < jts.toArray.size),SeqAt.EqAt A.in1 s its.toArray[j] jts.toArray[j] true:=fun j h1 h2 => by
        obtain ⟨x1,g1,q1⟩:=r1.at2 h1
        obtain ⟨x2,g2,q2⟩:=r2.at2 h2
        obtain ⟨d,gd⟩:=ZbV g1 hl
        exact (Rp.both I n A.in1 _ _ _ _ d (by show A.units + 1 + n < cLine; omega) (hi j _ _ g1 gd) (hj j _ _ g2 gd) q1 q2).1
      have es:(its.toArray.size == jts.toArray.size) = true:=by simp; omega
      have rc:=SeqAt.RcAt.tuples (A:=A) (e:=fun _ => true) p1 p2 hu0 el
      have rn:=SeqAt.RcNeAt.tuples (A:=A) (e:=fun _ => true) p1 p2 hu0 el
      rw [ZaY,es] at rc rn
      refine ⟨?_,rc,rn⟩
      by_cases hab:a = b
      · subst hab; exact SeqAt.EqAt.same _
      · exact SeqAt.EqAt.of_refs hab rc
end
section
variable {X:Cx} {k:Nat}
def ZjI:R2:=fun x y H Q => ∃ d,Rp H 8 x d ∧ Rp H 8 y d ∧ Q (.bl false) H
theorem ZiA (hr:Room k X.A):OpR X (compareOp .NotEq) ZjI:=by
  intro pins s σ H x y v u Q I rx ry h
  obtain ⟨d,hx,hy,q⟩:=h
  have hu:=hr.units
  exact (Rp.both I 8 X.A x y v u d (by omega) hx hy rx ry).2.2 _ _ _ _ ⟨.bl false,H,I,rfl,q⟩
end
end L2
namespace L2
open PySem PySem.Spec PyProof.Rows
section
variable {X:Cx} {es:List Expr} {te:TE} {t:TA} {p:Pos} {k:Nat}
end
def All2 (R:V → PyData → Prop) (xs:List V) (ds:List PyData):Prop:=xs.length = ds.length ∧ ∀ (i:Nat) v d,xs[i]? = some v → ds[i]? = some d → R v d
section
variable {R R':V → PyData → Prop} {xs ys:List V} {ds es:List PyData} {x:V} {d:PyData}
theorem All2.nil:All2 R [] []:=⟨rfl,fun i v d h => by simp at h⟩
theorem All2.cons (h:R x d) (t:All2 R xs ds):All2 R (x :: xs) (d :: ds):=by
  refine ⟨by simp [t.1],fun i v e hv he => ?_⟩
  cases i with
  | zero => cases hv; cases he; exact h
  | succ i => exact t.2 i v e (by simpa using hv) (by simpa using he)
theorem All2.mono (h:All2 R xs ds) (f:∀ v d,R v d → R' v d):All2 R' xs ds:=⟨h.1,fun i v d a b => f v d (h.2 i v d a b)⟩
theorem All2.append (h:All2 R xs ds) (g:All2 R ys es):All2 R (xs ++ ys) (ds ++ es):=by
  refine ⟨by rw [List.length_append,List.length_append,h.1,g.1],fun i v e hv he => ?_⟩
  have l:=h.1
  by_cases hi:i < xs.length
  · rw [List.getElem?_append_left hi] at hv
    rw [List.getElem?_append_left (by omega)] at he
    exact h.2 i v e hv he
  · rw [List.getElem?_append_right (by omega)] at hv he
    rw [← l] at he
    exact g.2 _ v e hv he
theorem All2.take (h:All2 R xs ds) (n:Nat):All2 R (xs.take n) (ds.take n):=by
  refine ⟨by rw [List.length_take,List.length_take,h.1],fun i v e hv he => ?_⟩
  rw [List.getElem?_take] at hv he
  split at hv
  · rename_i hi
    rw [if_pos hi] at he
    exact h.2 i v e hv he
  · cases hv
theorem All2.drop (h:All2 R xs ds) (n:Nat):All2 R (xs.drop n) (ds.drop n):=by
  refine ⟨by rw [List.length_drop,List.length_drop,h.1],fun i v e hv he => ?_⟩
  rw [List.getElem?_drop] at hv he
  exact h.2 _ v e hv he
theorem All2.set (h:All2 R xs ds) (n:Nat) (g:R x d):All2 R (xs.set n x) (ds.set n d):=by
  refine ⟨by rw [List.length_set,List.length_set,h.1],fun i v e hv he => ?_⟩
  rw [List.getElem?_set] at hv he
  have l:=h.1
  split at hv
  · rename_i hi
    rw [if_pos hi] at he
    split at hv
    · rename_i hl
      rw [if_pos (by omega)] at he
      cases hv; cases he; exact g
    · cases hv
  · rename_i hi
    rw [if_neg hi] at he
    exact h.2 i v e hv he
theorem All2.one (h:R x d):All2 R [x] [d]:=.cons h .nil
theorem All2.get (h:All2 R xs ds) {i:Nat} (hv:xs[i]? = some x):∃ d,ds[i]? = some d ∧ R x d:=by
  obtain ⟨d,e⟩:=ZbV hv h.1
  exact ⟨d,e,h.2 i x d hv e⟩
end
end L2
namespace L2
open PySem PySem.Spec PyProof.Rows
theorem Bits.le {n:Nat} {i j:Int} (h:Bits n j) (l:i.natAbs ≤ j.natAbs):Bits n i:=Bits.of (Nat.lt_of_le_of_lt l h.lt)
theorem Bits.up {n m:Nat} {i:Int} (h:Bits n i) (l:n ≤ m):Bits m i:=Nat.le_trans h l
theorem Bits.times {n m:Nat} {i j:Int} (h:Bits n i) (h':Bits m j):Bits (n + m) (i * j):=Bits.of (by
  rw [Int.natAbs_mul,Nat.pow_add]
  exact Nat.mul_lt_mul'' h.lt h'.lt)
section
variable {X:Cx}
end
end L2
namespace L2
open PySem PySem.Spec PyProof.Rows
def AllG {β:Type} (R:V → β → Prop) (xs:List V) (ds:List β):Prop:=xs.length = ds.length ∧ ∀ (i:Nat) v d,xs[i]? = some v → ds[i]? = some d → R v d
section
variable {β:Type} {R R':V → β → Prop} {xs ys:List V} {ds es:List β} {x:V} {d:β}
theorem AllG.nil:AllG R [] []:=⟨rfl,fun i v d h => by simp at h⟩
theorem AllG.cons (h:R x d) (t:AllG R xs ds):AllG R (x :: xs) (d :: ds):=by
  refine ⟨by simp [t.1],fun i v e hv he => ?_⟩
  cases i with
  | zero => cases hv; cases he; exact h
  | succ i => exact t.2 i v e (by simpa using hv) (by simpa using he)
theorem AllG.mono (h:AllG R xs ds) (f:∀ v d,R v d → R' v d):AllG R' xs ds:=⟨h.1,fun i v d a b => f v d (h.2 i v d a b)⟩
theorem AllG.append (h:AllG R xs ds) (g:AllG R ys es):AllG R (xs ++ ys) (ds ++ es):=by
  refine ⟨by rw [List.length_append,List.length_append,h.1,g.1],fun i v e hv he => ?_⟩
  have l:=h.1
  by_cases hi:i < xs.length
  · rw [List.getElem?_append_left hi] at hv
    rw [List.getElem?_append_left (by omega)] at he
    exact h.2 i v e hv he
  · rw [List.getElem?_append_right (by omega)] at hv he
    rw [← l] at he
    exact g.2 _ v e hv he
theorem AllG.take (h:AllG R xs ds) (n:Nat):AllG R (xs.take n) (ds.take n):=by
  refine ⟨by rw [List.length_take,List.length_take,h.1],fun i v e hv he => ?_⟩
  rw [List.getElem?_take] at hv he
  split at hv
  · rename_i hi
    rw [if_pos hi] at he
    exact h.2 i v e hv he
  · cases hv
theorem AllG.drop (h:AllG R xs ds) (n:Nat):AllG R (xs.drop n) (ds.drop n):=by
  refine ⟨by rw [List.length_drop,List.length_drop,h.1],fun i v e hv he => ?_⟩
  rw [List.getElem?_drop] at hv he
  exact h.2 _ v e hv he
theorem AllG.set (h:AllG R xs ds) (n:Nat) (g:R x d):AllG R (xs.set n x) (ds.set n d):=by
  refine ⟨by rw [List.length_set,List.length_set,h.1],fun i v e hv he => ?_⟩
  rw [List.getElem?_set] at hv he
  have l:=h.1
  split at hv
  · rename_i hi
    rw [if_pos hi] at he
    split at hv
    · rename_i hl
      rw [if_pos (by omega)] at he
      cases hv; cases he; exact g
    · cases hv
  · rename_i hi
    rw [if_neg hi] at he
    exact h.2 i v e hv he
theorem AllG.one (h:R x d):AllG R [x] [d]:=.cons h .nil
theorem AllG.get (h:AllG R xs ds) {i:Nat} (hv:xs[i]? = some x):∃ d,ds[i]? = some d ∧ R x d:=by
  obtain ⟨d,e⟩:=ZbV hv h.1
  exact ⟨d,e,h.2 i x d hv e⟩
theorem AllG.at (h:AllG R xs ds) {i:Nat} {b:β} (hd:ds[i]? = some b):∃ x,xs[i]? = some x ∧ R x b:=by
  have l:=h.1
  have hi:=(List.getElem?_eq_some_iff.mp hd).1
  exact ⟨xs[i]'(by omega),List.getElem?_eq_getElem (by omega),h.2 i _ _ (List.getElem?_eq_getElem (by omega)) hd⟩
theorem AllG.zip {α:Type} {R3:V → α → Prop} {as:List α} (h:AllG R xs ds) (g:AllG R3 ys as) {i:Nat} {a b:V} (ha:xs[i]? = some a) (hb:ys[i]? = some b):∃ p q,ds[i]? = some p ∧ as[i]? = some q ∧ R a p ∧ R3 b q:=by
  obtain ⟨p,hp,rp⟩:=h.get ha
  obtain ⟨q,hq,rq⟩:=g.get hb
  exact ⟨p,q,hp,hq,rp,rq⟩
end
end L2
namespace L2
open PySem PySem.Spec PyProof.Rows
section
variable {X:Cx} {k:Nat}
end
end L2
namespace L2
open PySem PySem.Spec PyProof.Rows
section
variable {X:Cx} {tg:Expr}
end
section
variable {X:Cx} {k:Nat}
end
end L2
namespace L2
open PySem PySem.Spec PyProof.Rows
section
variable {X:Cx} {tg iter elt:Expr} {scope:Scope} {pos:Pos} {wi:TI} {g:TG} {te:TE} {own:List Str} {caps:List (Nat × Str)}
end
end L2
namespace L2
open PySem PySem.Spec PyProof.Rows
section
variable {X:Cx} {k:Nat}
end
end L2
namespace L2
open PySem PySem.Spec PyProof.Rows
section
variable {X:Cx} {tg iter elt cnd:Expr} {scope:Scope} {pos:Pos} {wi:TI} {g:TG} {tt:TT} {te:TE} {own:List Str} {caps:List (Nat × Str)}
end
end L2
namespace L2
open PySem PySem.Spec PyProof.Rows
end L2
namespace L2
open PySem PySem.Spec PyProof.Rows PySem.Builtin.Str
def Its (z:Str):It:=⟨fun i _ => i < z.cps.size,fun i H x H' => H' = H ∧ ∃ c,z.cps[i]? = some c ∧ x = .str ⟨#[c]⟩,fun i _ => i = z.cps.size⟩
theorem Ze1 {P:Program} {w:World} {K:PySem.W.Frag} {tg:Expr} (z:Str) (t:Tok) (ty:String) (it:Addr)
    (hn:["enumerate", "zip", "dict_itemiterator", "dict_reverseitemiterator", "odict_iterator", "itertools.zip_longest", "itertools.pairwise"].contains ty = false)
    (W:∀ A':Around,A'.handled = none → Walks P w A' it [it] [it] z.cps.size (SignAt z) (fun i h => h.IsStrIter it ty z t i))
    (S:∀ (A:Around) (i:Nat) (s:Shared) (Q:Value → Shared → Prop) (E:Value → Shared → Prop),s.heap.IsStrIter it ty z t i → Q (.ref it) s → wpAny (model P w) A (pyIter (.ref it)) Q E s) :
    Turn P w K tg (Its z) [it] it (fun i h => h.IsStrIter it ty z t i) where
  mem:=by simp
  obj:=fun i h st b hb => by
    have e:b = it:=by simpa using hb
    subst e
    obtain ⟨o,e,c,d⟩:=st
    exact ⟨o,e,fun v z => by rw [d] at z; cases z⟩
  keep:=fun i h h' st k => by
    obtain ⟨o,e,r⟩:=st
    exact ⟨o,k it (by simp) o e,r⟩
  item:=by
    intro X hP hw hK hc i pins s σ H E I hf st hg
    subst hP hw hK
    obtain ⟨f0,f1,f2,f3,f4,f5⟩:=hf it (by simp)
    refine (W X.A (I.ok.hd hc)).item i s _ _ hg st fun v h' tk hv st' kk => ?_
    obtain ⟨c,u,ec,rfl⟩:=hv
    have I1:Inv X pins σ H { s with heap:=h',toks:=tk }:=I.turned (fun b o hb e => kk b o (by simpa using hb) e) f0 f1 f3 f4 f5
    obtain ⟨o,e,c',d⟩:=id st'
    exact ⟨_,rfl,Zhu (s:={ s with heap:=h',toks:=tk }) e c' d hn ⟨.str ⟨#[c]⟩,H,I1,⟨u,rfl⟩,⟨rfl,c,ec,rfl⟩,st',fun b hb => (hf b hb).1⟩⟩
  done:=by
    intro X hP hw hK hc i pins s σ H E I hf st hg
    subst hP hw hK
    obtain ⟨f0,f1,f2,f3,f4,f5⟩:=hf it (by simp)
    have hg:i = z.cps.size:=hg
    subst hg
    exact (W X.A (I.ok.hd hc)).done s _ _ st fun h' tk kk => ⟨rfl,I.turned (fun b o hb e => kk b o (by simpa using hb) e) f0 f1 f3 f4 f5⟩
  self:=S
def ZjJ (tl:TE):TI:=fun σ H R => tl σ H fun x H1 => ∃ z,x = .str z ∧ R (Its z) H1
section
variable {X:Cx} {tg:Expr}
theorem Zhh {l:Expr} {tl:TE} (hl:PE X l tl):PI X tg l (ZjJ tl):=by
  intro pins s σ H R I h
  refine thn (hl pins s σ H _ I h) fun v s1 ⟨x,H1,I1,r1,q1⟩ => ?_
  obtain ⟨z,e,q⟩:=q1
  subst e
  obtain ⟨t,rfl⟩:=r1
  have fp:∀ b ∈ [s1.heap.objs.size],Zer X pins H1 b:=fun b hb => by
    have e:b = s1.heap.objs.size:=by simpa using hb
    subst e
    exact I1.fpOk (Nat.le_refl _) (I1.hok.fresh (Nat.le_refl _))
  cases ha:z.cps.all (· < 128)
  · refine wpAny_pyIter_wide ha ?_
    exact ⟨s1.heap.objs.size,[s1.heap.objs.size],_,_,H1,rfl,I1.kept (t':=s1.toks) fun b o e => Heap.get?_push_of_some _ e,Ze1 z t "str_iterator" _ (by decide) (fun A' hA => Walks.strWide hA _ z t) (fun _ _ _ _ _ st h => wpAny_pyIter_striter_wide st h),⟨_,Heap.get?_push_size _ rfl,rfl,rfl⟩,fp,q⟩
  · refine wpAny_pyIter_ascii ha ?_
    exact ⟨s1.heap.objs.size,[s1.heap.objs.size],_,_,H1,rfl,I1.kept (t':=s1.toks) fun b o e => Heap.get?_push_of_some _ e,Ze1 z t "str_ascii_iterator" _ (by decide) (fun A' hA => Walks.strAscii hA _ z t) (fun _ _ _ _ _ st h => wpAny_pyIter_striter_ascii st h),⟨_,Heap.get?_push_size _ rfl,rfl,rfl⟩,fp,q⟩
def ZjK:V → Option Int → Option Int → Hp → VK → Prop:=fun x lo hi H Q => ∃ z,x = .str z ∧ z.length ≤ sizeLine ∧ Q (.str (Txt.slice z lo hi)) H
theorem ZbW:SlR X ZjK:=by
  intro pins s σ H x v vl vu lo hi sl Q I rx hs pl pu h
  obtain ⟨z,rfl,hz,q⟩:=h
  obtain ⟨t,rfl⟩:=rx
  refine ⟨"str", _,F.slot_str_getitem.lookup,typeIs_str _ _ _,?_⟩
  have go:∀ (l u:Option (Int × Tok)),vl = partValue l → vu = partValue u → l.map (·.1) = lo → u.map (·.1) = hi → wpAny (model X.prog X.w) X.A (getItem (.str z t) (.ref sl)) (EP X pins σ Q) X.xe s:=by
    rintro l u rfl rfl rfl rfl
    refine wpAny_getItem_str_slice (l:=l) (u:=u) (st:=none) hs rfl (post_val_or_str ⟨Nat.le_trans (Txt.slice_le z _ _) hz,fun t' k => ?_⟩)
    exact ⟨.str _,H,I.tok _,⟨t',rfl⟩,q⟩
  cases pl with
  | none => cases pu with
    | none => exact go none none rfl rfl rfl rfl
    | int j t' => exact go none (some (j,t')) rfl rfl rfl rfl
  | int i t1 => cases pu with
    | none => exact go (some (i,t1)) none rfl rfl rfl rfl
    | int j t' => exact go (some (i,t1)) (some (j,t')) rfl rfl rfl rfl
theorem Zdw:MtR X "str.startswith" (fun x xs H Q => ∃ z y,x = .str z ∧ xs = [.str y] ∧ Q (.bl (Txt.startswith z y)) H):=by
  intro pins s σ H x xs v us Q I rx rs h
  obtain ⟨z,y,rfl,rfl,q⟩:=h
  obtain ⟨t,rfl⟩:=rx
  obtain ⟨u,rfl,r1⟩:=Zb4 rs
  obtain ⟨t',rfl⟩:=r1
  exact SC.startswith ⟨.bl _,H,I,rfl,q⟩
theorem Zd4:∀ (l:List (Str × Tok)),Vals ((l.map (·.1)).map V.str) (strValues l)
  | [] => .nil
  | p :: r => .cons ⟨p.2,rfl⟩ (Zd4 r)
theorem ZbE:MtR X "str.split" (fun x xs H Q => ∃ z y,x = .str z ∧ xs = [.str y] ∧ (y.length == 0) = false ∧ z.length + 2 ≤ sizeLine ∧ ∀ D,H D = none → Q (.ref D) (upd H D (.lst ((Txt.split z y).map V.str)))):=by
  intro pins s σ H x xs v us Q I rx rs h
  obtain ⟨z,y,rfl,rfl,hy,hsz,q⟩:=h
  obtain ⟨t,rfl⟩:=rx
  obtain ⟨u,rfl,r1⟩:=Zb4 rs
  obtain ⟨t',rfl⟩:=r1
  have hn:(partsBetween z (occurrences z y 0 z.length (z.length + 1)) y.length).length ≤ sizeLine:=by
    have e1:=StrLaws.occ_length_le z y 0 z.length (z.length + 1)
    rw [length_partsBetween]; omega
  have hs1:1 ≤ sizeLine:=by decide
  have fin:∀ (l:List (Str × Tok)) (k:Nat),l.map (·.1) = Txt.split z y → l.length ≤ sizeLine → EP X pins σ Q (.ref s.heap.objs.size) { s with heap:=s.heap.push { cls:=.type "list", data:=.seq (strValues l).toArray },toks:=k }:=fun l k el ll => by
    have q':=q s.heap.objs.size (I.hok.fresh (Nat.le_refl _))
    rw [← el] at q'
    refine ⟨.ref s.heap.objs.size,_,I.laid (t':=k) (o:=.lst ((l.map (·.1)).map V.str)) (fun b ob q => Heap.get?_push_of_some _ q) (Nat.le_refl _) ?_,rfl,q'⟩
    exact ⟨by rw [List.length_map,List.length_map]; exact ll,_,0,Zd4 l,Heap.get?_push_size _ rfl⟩
  cases h1:(decide (z.length < y.length) || decide (strKind z < strKind y))
  · cases hf:(occurrences z y 0 z.length (z.length + 1)).isEmpty
    · refine call_meets F.slot_str_split (typeIs_str _ _ _) F.entry_str_split (F.args_str_split_2 _ _) (meets_str_split_sep z y t t' h1 hy hf (by omega) hn) ?_
      show wants _ _ _ { s with toks:=_,heap:=s.heap.push { cls:=.type "list", data:=.seq (strsFrom s.toks (partsBetween z (occurrences z y 0 z.length (z.length + 1)) y.length)).toArray } }
      rw [strsFrom_eq]
      refine fin (numbered s.toks _) _ ((numbered_texts _ _).trans ((if_neg (ne_true_of_eq_false h1)).trans (if_neg (ne_true_of_eq_false hf))).symm) ?_
      rw [← List.length_map (f:=(·.1)),numbered_texts]; exact hn
    · exact call_meets F.slot_str_split (typeIs_str _ _ _) F.entry_str_split (F.args_str_split_2 _ _) (meets_str_split_not_found z y t t' h1 hy hf)
        (fin [(z,t)] s.toks ((if_neg (ne_true_of_eq_false h1)).trans (if_pos hf)).symm hs1)
  · exact call_meets F.slot_str_split (typeIs_str _ _ _) F.entry_str_split (F.args_str_split_2 _ _) (meets_str_split_cannot_occur z y t t' h1)
      (fin [(z,t)] s.toks (if_pos h1).symm hs1)
theorem ZbX:CallR X (.type "int") (fun xs H Q => ∃ z n,xs = [.str z] ∧ z.length ≤ 640 ∧ intText? z = some n ∧ Q (.int n) H):=by
  intro pins s σ H xs us Q I r h
  obtain ⟨z,n,rfl,hl,hn,q⟩:=h
  obtain ⟨u,rfl,r1⟩:=Zb4 r
  obtain ⟨t,rfl⟩:=r1
  exact PySem.W.KIN.call_text hn hl ⟨.int n,H,I.tok _,⟨_,rfl⟩,q⟩
end
section
variable {X:Cx} {e e':Expr} {te te':TE} {c1:Str} {p1 p2 p3 pos:Pos}
theorem ZhQ {j1} (he:PE X e te) (he':PE X e' te'):PE X (.JoinedStr [.FormattedValue e (-1) none p1,.Constant (.str c1) j1 p2,.FormattedValue e' (-1) none p3] pos)
    (fun σ H Q => te σ H fun x H1 => ∃ r:Int,x = .int r ∧ r.natAbs.log2 < 1920 ∧ (Str.empty ++ (toString r:String)).length ≤ sizeLine ∧ (Str.empty ++ (toString r:String) ++ c1).length ≤ sizeLine ∧ te' σ H1 fun x' H2 => ∃ r':Int,x' = .int r' ∧ r'.natAbs.log2 < 1920 ∧ (Str.empty ++ (toString r:String) ++ c1 ++ (toString r':String)).length ≤ sizeLine ∧ Q (.str (Str.empty ++ (toString r:String) ++ c1 ++ (toString r':String))) H2):=by
  intro pins s σ H Q I h
  refine JoinedStr_many (joinParts_cons (FormattedValue_plain (thn (he pins _ σ H _ I h) fun v s1 ⟨y,H1,I1,ry,r,ey,hl,z1,z2,q⟩ => ?_)))
  subst ey
  obtain ⟨tk,rfl⟩:=ry
  refine formatField_int_small hl ⟨z1,joinParts_cons (Calls.Constant_str ⟨z2,joinParts_cons (FormattedValue_plain (thn (he' pins _ σ H1 _ (I1.tok _) q) fun v' s2 ⟨y',H2,I2,ry',r',ey',hl',z3,q'⟩ => ?_))⟩)⟩
  subst ey'
  obtain ⟨tk',rfl⟩:=ry'
  exact formatField_int_small hl' ⟨z3,joinParts_nil ⟨.str _,H2,I2.tok _,⟨_,rfl⟩,q'⟩ z3⟩
end
end L2
namespace L2
open PySem PySem.Spec PyProof.Rows PySem.Builtin.Str
theorem Str.of_list {x y:Str} (h:x.cps.toList = y.cps.toList):x = y:=Str.ext' (Array.toList_inj.mp h)
theorem len_list (x:Str):x.length = x.cps.toList.length:=by simp [Str.length]
theorem ZcL (x:Str) {lo hi:Option Int} {a b:Nat} (hi':strSliceIndices lo hi 1 x.length = strSliceIndices (some (a:Int)) (some (b:Int)) 1 x.length) (hab:a ≤ b) (hb:b ≤ x.length):(Txt.slice x lo hi).cps.toList = (x.cps.toList.drop a).take (b - a):=by
  have hl:=len_list x
  have hs:=StrLaws.sliced_plain x hab hb
  have hp:=StrLaws.strSliceIndices_plain hab hb
  unfold Txt.slice
  rw [hi']
  split
  · rename_i h
    have h2:((strSliceIndices (some (a:Int)) (some (b:Int)) 1 x.length).length == x.length) = true:=by simpa using h
    rw [hp,List.length_map,List.length_range] at h2
    have h3:b - a = x.length:=beq_iff_eq.mp h2
    have ea:a = 0:=by omega
    subst ea
    rw [List.drop_zero,List.take_of_length_le (by omega)]
  · show ((strSliceIndices (some (a:Int)) (some (b:Int)) 1 x.length).filterMap (x.cps[·]?)).toArray.toList = _
    rw [List.toList_toArray]; exact hs
theorem ZgY (x:Str) (n:Nat):(Txt.slice x none (some (n:Int))).cps.toList = x.cps.toList.take n:=by
  have hl:=len_list x
  have h:strSliceIndices none (some (n:Int)) 1 x.length = strSliceIndices (some ((0:Nat):Int)) (some ((min n x.length:Nat):Int)) 1 x.length:=by
    have h0:¬ ((n:Int) < 0):=by omega
    have h1:¬ (((min n x.length:Nat):Int) < 0):=by omega
    have e1:max (0:Int) (min (n:Int) (x.length:Int)) = ((min n x.length:Nat):Int):=by omega
    have e2:max (0:Int) (min ((min n x.length:Nat):Int) (x.length:Int)) = ((min n x.length:Nat):Int):=by omega
    have e3:max (0:Int) (min ((0:Nat):Int) (x.length:Int)) = 0:=by omega
    simp only [strSliceIndices,h0,h1,if_false,e1,e2,e3,show ((1:Int) > 0) = True from by simp,if_true,show ¬ (((0:Nat):Int) < 0) by omega]
  rw [ZcL x h (by omega) (by omega),List.drop_zero,Nat.sub_zero]
  by_cases q:n ≤ x.length
  · rw [Nat.min_eq_left q]
  · rw [Nat.min_eq_right (by omega),List.take_of_length_le (by omega),List.take_of_length_le (by omega)]
theorem Zdf (x:Str) (n:Nat):(Txt.slice x (some (n:Int)) none).cps.toList = x.cps.toList.drop n:=by
  have hl:=len_list x
  have h:strSliceIndices (some (n:Int)) none 1 x.length = strSliceIndices (some ((min n x.length:Nat):Int)) (some (x.length:Int)) 1 x.length:=by
    have h0:¬ ((n:Int) < 0):=by omega
    have h1:¬ (((min n x.length:Nat):Int) < 0):=by omega
    have h2:¬ ((x.length:Int) < 0):=by omega
    have e1:max (0:Int) (min (n:Int) (x.length:Int)) = ((min n x.length:Nat):Int):=by omega
    have e2:max (0:Int) (min ((min n x.length:Nat):Int) (x.length:Int)) = ((min n x.length:Nat):Int):=by omega
    have e3:max (0:Int) (min (x.length:Int) (x.length:Int)) = x.length:=by omega
    simp only [strSliceIndices,h0,h1,h2,if_false,e1,e2,e3,show ((1:Int) > 0) = True from by simp,if_true]
  rw [ZcL x h (by omega) (by omega)]
  by_cases q:n ≤ x.length
  · rw [Nat.min_eq_left q,List.take_of_length_le (by rw [List.length_drop]; omega)]
  · rw [Nat.min_eq_right (by omega),List.drop_of_length_le (by omega),List.drop_of_length_le (by omega),List.take_nil]
def spl (c:Nat):List Nat → List (List Nat)
  | [] => [[]]
  | a :: l => if a = c then [] :: spl c l else match spl c l with
    | [] => [[a]]
    | h :: t => (a :: h) :: t
theorem Ze2 (c:Nat):∀ l,∃ h t,spl c l = h :: t
  | [] => ⟨[],[],rfl⟩
  | a :: l => by
    obtain ⟨h,t,e⟩:=Ze2 c l
    unfold spl
    by_cases q:a = c
    · rw [if_pos q]; exact ⟨_,_,rfl⟩
    · rw [if_neg q,e]; exact ⟨_,_,rfl⟩
theorem Zcv {c a:Nat} {l h:List Nat} {t:List (List Nat)} (q:a ≠ c) (e:spl c l = h :: t):spl c (a :: l) = (a :: h) :: t:=by
  show (if a = c then _ else _) = _
  rw [if_neg q,e]
theorem Ze3 {c:Nat}:∀ {l:List Nat},c ∉ l → spl c l = [l]
  | [],_ => rfl
  | a :: l,h => Zcv (fun z => h (by rw [z]; exact .head _)) (Ze3 fun z => h (.tail _ z))
theorem ZeC {c:Nat}:∀ {p:List Nat} (r:List Nat),c ∉ p → spl c (p ++ c :: r) = p :: spl c r
  | [],r,_ => by show (if c = c then _ else _) = _; rw [if_pos rfl]
  | a :: p,r,h => Zcv (fun z => h (by rw [z]; exact .head _)) (ZeC r fun z => h (.tail _ z))
theorem Ze4 (c:Nat):∀ (ps:List Str),ps ≠ [] → (∀ p ∈ ps,c ∉ p.cps.toList) → spl c (Str.join ⟨#[c]⟩ ps).cps.toList = ps.map (·.cps.toList)
  | [],h,_ => absurd rfl h
  | [x],_,f => Ze3 (f x (.head _))
  | x :: y :: r,_,f => by
    have ih:=Ze4 c (y :: r) (by simp) fun p hp => f p (.tail _ hp)
    have e:(Str.join ⟨#[c]⟩ (x :: y :: r)).cps.toList = x.cps.toList ++ c :: (Str.join ⟨#[c]⟩ (y :: r)).cps.toList:=by
      show (x ++ ⟨#[c]⟩ ++ Str.join ⟨#[c]⟩ (y :: r)).cps.toList = _
      simp only [Str.cps_append,Array.toList_append]
      simp
    rw [e,ZeC _ (f x (.head _)),ih]; rfl
theorem Zd5 (x:Str) (c:Nat):(Txt.split x ⟨#[c]⟩).map (·.cps.toList) = spl c x.cps.toList:=by
  have j:=StrLaws.join_split x ⟨#[c]⟩
  have ne:Txt.split x ⟨#[c]⟩ ≠ []:=by
    unfold Txt.split
    split
    · simp
    · split
      · simp
      · intro z
        have:=congrArg List.length z
        rw [length_partsBetween] at this
        simp at this
  have:=Ze4 c _ ne (StrLaws.split_free x c)
  rw [j] at this
  exact this.symm
theorem Zfq (x:Str) (c:Nat):Txt.startswith x ⟨#[c]⟩ = decide (x.cps.toList.head? = some c):=by
  have hl:=len_list x
  unfold Txt.startswith
  have h1:(subAt x ⟨#[c]⟩ 0) = decide ((x.cps.toList.drop 0).take 1 = [c]):=by
    rw [StrLaws.subAt_eq]
    show (((x.cps.toList.drop 0).take 1) == [c]) = _
    rw [Bool.eq_iff_iff,beq_iff_eq,decide_eq_true_iff]
  rw [h1]
  show (decide (0 + 1 ≤ x.length) && _) = _
  rw [hl]
  generalize x.cps.toList = l
  cases l with
  | nil => rfl
  | cons a r => simp
end L2
namespace L2
open PySem PySem.Spec PyProof.Rows PySem.Builtin.Str
theorem ZgZ {caps:List (Nat × Str)} {te:TE} {z:Str} {σ:St} {H:Hp} {QL:List V → Hp → Prop} (Pv:Nat → List V → Hp → Prop) (hz:z.length ≤ 1000) (h0:Pv 0 [] H)
    (hs:∀ i c ys H,z.cps[i]? = some c → ys.length = i → Pv i ys H → te (some (.str ⟨#[c]⟩) :: caps.map fun p => (σ[p.1]?).join) H fun v H' => Pv (i + 1) (ys ++ [v]) H') (hd:∀ ys H,ys.length = z.cps.size → Pv z.cps.size ys H → QL ys H) :
    ZcI 1 caps (Zb3 0) te σ (Its z) H QL:=by
  have hz:z.cps.size ≤ 1000:=hz
  have hz':z.cps.size < sizeLine:=ZbU hz
  refine ⟨fun i m ys H => m = z.cps.size - i ∧ i ≤ z.cps.size ∧ ys.length = i ∧ Pv i ys H,⟨_,rfl,Nat.zero_le _,rfl,h0⟩,?_⟩
  rintro i m ys H' ⟨rfl,hi,hy,p⟩
  refine ⟨by omega,?_⟩
  by_cases hlt:i < z.cps.size
  · refine .inr ⟨hlt,by omega,fun v H4 => Pv (i + 1) (ys ++ [v]) H4,fun v H4 p' => ⟨z.cps.size - (i + 1),by omega,rfl,hlt,by rw [List.length_append,hy]; rfl,p'⟩,fun x H2 y => ?_⟩
    obtain ⟨e,c,hc,ex⟩:=y
    subst e ex
    exact ⟨ZgN,hs i c ys _ hc hy p⟩
  · have e:i = z.cps.size:=by omega
    subst e
    exact .inl ⟨rfl,hd ys H' hy p⟩
theorem Zdg {caps:List (Nat × Str)} {te:TE} {K:PySem.W.Frag} {a:Addr} {xs:List V} {σ:St} {H:Hp} {QL:List V → Hp → Prop} (Pv:Nat → List V → Hp → Prop) (hz':xs.length < sizeLine) (h0:Pv 0 [] H) (hl:∀ i ys H,i ≤ xs.length → Pv i ys H → SqL K H a xs)
    (hs:∀ i x ys H,xs[i]? = some x → ys.length = i → Pv i ys H → te (some x :: caps.map fun p => (σ[p.1]?).join) H fun v H' => Pv (i + 1) (ys ++ [v]) H') (hd:∀ ys H,ys.length = xs.length → Pv xs.length ys H → QL ys H) :
    ZcI 1 caps (Zb3 0) te σ (Itl K a) H QL:=by
  refine ⟨fun i m ys H => m = xs.length - i ∧ i ≤ xs.length ∧ ys.length = i ∧ Pv i ys H,⟨_,rfl,Nat.zero_le _,rfl,h0⟩,?_⟩
  rintro i m ys H' ⟨rfl,hi,hy,p⟩
  have q:=hl i ys H' hi p
  refine ⟨by omega,?_⟩
  by_cases hlt:i < xs.length
  · refine .inr ⟨⟨xs,xs[i],q,by simp [hlt]⟩,by omega,fun v H4 => Pv (i + 1) (ys ++ [v]) H4,fun v H4 p' => ⟨xs.length - (i + 1),by omega,rfl,hlt,by rw [List.length_append,hy]; rfl,p'⟩,fun x H2 y => ?_⟩
    obtain ⟨e,y⟩:=y
    subst e
    exact ⟨ZgN,hs i x ys _ (y xs q) hy p⟩
  · have e:i = xs.length:=by omega
    subst e
    exact .inl ⟨⟨xs,q,Nat.le_refl _⟩,hd ys H' hy p⟩
theorem ZhR {z:Str} {g:TG} {tb:TS} {D:Ends} {σ:St} {H:Hp} (Pv:Nat → St → Hp → Prop) (h0:Pv 0 σ H)
    (hs:∀ i c σ H,z.cps[i]? = some c → Pv i σ H → g (.str ⟨#[c]⟩) σ H fun σ2 H2 => tb { D with nx:=Pv (i + 1),ct:=Pv (i + 1),bk:=D.nx } σ2 H2) (hd:∀ σ H,Pv z.cps.size σ H → D.nx σ H) :
    ∃ W:Nat → Nat → St → Hp → Prop,(∃ m,W 0 m σ H) ∧ ∀ i m σ H,W i m σ H →
  ((Its z).stop i H ∧ D.nx σ H) ∨ ((Its z).go i H ∧ ∃ N:St → Hp → Prop,(∀ σ' H',N σ' H' → ∃ m',m' < m ∧ W (i + 1) m' σ' H') ∧ ∀ x H',(Its z).yld i H x H' → g x σ H' fun σ2 H2 => tb { D with nx:=N,ct:=N,bk:=D.nx } σ2 H2):=by
  refine ⟨fun i m σ H => m = z.cps.size - i ∧ i ≤ z.cps.size ∧ Pv i σ H,⟨_,rfl,Nat.zero_le _,h0⟩,?_⟩
  rintro i m σ' H' ⟨rfl,hi,p⟩
  by_cases hlt:i < z.cps.size
  · refine .inr ⟨hlt,Pv (i + 1),fun σ' H' p' => ⟨z.cps.size - (i + 1),by omega,rfl,hlt,p'⟩,fun x H2 y => ?_⟩
    obtain ⟨e,c,hc,ex⟩:=y
    subst e ex
    exact hs i c σ' _ hc p
  · have e:i = z.cps.size:=by omega
    subst e
    exact .inl ⟨rfl,hd σ' H' p⟩
end L2
namespace L2
open PySem PySem.Spec PyProof.Rows
inductive StrCs:List Expr → List Str → Prop
  | nil:StrCs [] []
  | cons {z:Str} {j pos} {es:List Expr} {zs:List Str} (h:StrCs es zs):StrCs (.Constant (.str z) j pos :: es) (z :: zs)
inductive StrCsT:List Expr → List Str → List Expr → Prop
  | nil {es:List Expr}:StrCsT es [] es
  | cons {z:Str} {j pos} {es tl:List Expr} {zs:List Str} (h:StrCsT es zs tl):StrCsT (.Constant (.str z) j pos :: es) (z :: zs) tl
theorem ZhS {X:Cx} {es:List Expr} {zs:List Str} (h:StrCs es zs):PA X es (fun σ H Q => Q (zs.map V.str) H):=by
  induction h with
  | nil => exact Zac
  | cons h ih => exact Zaa Zax ih
@[irreducible] def PAI (X:Cx) (es:List Expr) (t:TA):Prop:=PA X es t
theorem Zg0 {X:Cx} {es:List Expr} {zs:List Str} (h:StrCs es zs):PAI X es (fun σ H Q => Q (zs.map V.str) H):=by unfold PAI; exact ZhS h
theorem ZhT {X:Cx} {es:List Expr} {t:TA} {pos:Pos} (h:PAI X es t):PEI X (.List es pos) (Zje t):=by unfold PAI at h; exact pei (Zch h)
end L2
namespace L2
open PySem PySem.Spec PyProof.Rows
theorem Zdx {prog:Program} {w:World} {A:Around} {R:Result → Shared → Prop} {s:Shared} {elt target iter:Expr} {scope:Scope} {pos:Pos} {it acc:Value} {env:Env} (I:Nat → Shared → Prop)
    (turn:∀ n s,I n s → wpAny (model prog w) A (pyNext it) (fun r s₁ => match r with
      | none => R (.ok .next) s₁
      | some v => wpAny (model prog w) A (letOwnedTupleGo target it v) (fun _ s₁ => wpAny (model prog w) A (assign target env v) (fun _ s₂ => wpAny (model prog w) A (eval elt env) (fun x s₃ =>
          wpAny (model prog w) A (call (.builtin "list.append") [acc,x]) (fun _ s₄ => ∃ m,m < n ∧ I m s₄) (fun _ _ => False) s₃)
          (notedBy (model prog w) A env fun x s' => R (.error x) s') s₂) (fun _ _ => False) s₁) (fun _ _ => False) s₁) (fun _ _ => False) s)
    (n:Nat) (h:I n s) :
    codeAny (model prog w) A (.compLoop (.ListComp elt [⟨target,iter,[],0⟩] scope pos) 0 it acc env) R s:=by
  refine codeAny_loop rfl I (fun n s hI => ?_) n h
  show wpAny _ _ ((compTurn (.ListComp elt [⟨target,iter,[],0⟩] scope pos) 0 it acc env).onRaise (fun x => do noteFrame x env; theTreesLotGoes x)) _ _ s
  refine wpAny_noted ?_
  rw [compTurn_list1]
  refine wpAny_bind (wpAny_standAt (wpAny_bind (wpAny_mono (turn n s hI) (fun r s₁ h₁ => ?_) fun _ _ h' => False.elim h')))
  cases r with
  | none => exact wpAny_pure h₁
  | some v =>
    refine wpAny_bind (wpAny_mono h₁ (fun _ s₁ h₁ => ?_) fun _ _ h' => False.elim h')
    exact wpAny_bind (wpAny_mono h₁ (fun _ s₂ h₂ => wpAny_bind (wpAny_bind (wpAny_mono h₂ (fun x s₃ h₃ => wpAny_bind (wpAny_mono h₃
      (fun _ s₄ h₄ => wpAny_pure (wpAny_pure ⟨rfl,h₄⟩)) fun _ _ h' => False.elim h')) fun _ _ h' => h'))) fun _ _ h' => False.elim h')
section
variable {M:Model} {A:Around} {E:Value → Shared → Prop} {s:Shared} {B:Heap} {env:Env} {outer:List Env} {L e:Addr} {oe:Obj} {vs:Array Value} {cls a0:Value} {dd:Option Addr} {Q:Unit → Shared → Prop}
theorem Ze5 {fl0:Value} (hfr:A.frames = some (env :: outer)) (fl:s.heap.FunFrames B (env :: outer)) (hf:env.frame = some L) (tr:Tr s.heap B e cls a0 dd fl0) (st:B.StaysIn s.heap) (nb:B.get? e = none)
    (k:∀ h',B.StaysIn h' → h'.FunFrames B (env :: outer) → Tr h' B e cls a0 dd (rawInt L) → s.heap.UpToSlots h' → Q () { s with heap:=h' }):wpAny M A (noteFrame (.ref e) env) Q E s:=by
  have tr':=tr
  obtain ⟨oe,vs,T,oT,ts,he,rfl,rfl,hd,h0,h1,nT,hTe,hT,hdT,h3⟩:=tr
  unfold noteFrame
  simp only [hf]
  refine wpAny_bind (wpAny_field he hd h1 ?_)
  rw [if_pos (show (Value.ref T != Value.none) = true from by simp)]
  refine wpAny_bind (wpAny_field hT hdT h3 ?_)
  by_cases z:(fl0 == rawInt L) = true
  · rw [if_pos z]
    have e0:fl0 = rawInt L:=by simpa using z
    rw [e0] at tr'
    exact wpAny_pure (k s.heap st fl tr' (Heap.UpToSlots.of_keeps fun _ _ q => q))
  rw [if_neg z]
  have u:=ZaV (·.setIfInBounds 3 Value.none) hT hdT
  refine wpAny_bind (wpAny_setField hT hdT (Array.getElem?_eq_some_iff.mp h3).1 (ZcK (s:={ s with heap:=s.heap.update T (Obj.mapFields (·.setIfInBounds 3 Value.none)) }) hfr (Zbg u fl) hf (by rw [Heap.get?_update_other _ _ hTe]; exact he) (fun b o q => ?_) nb hd h0 (Array.getElem?_eq_some_iff.mp h1).1 fun h' a b c d => k h' a b c (u.trans d)))
  rw [Heap.get?_update_other _ _ fun z => by subst z; rw [nT] at q; cases q]
  exact st b o q
theorem Zg1 {fl0:Value} {l:List Env} (fo:Option Addr) (fl:s.heap.FunFrames B l) (tr:Tr s.heap B e cls a0 dd fl0) (st:B.StaysIn s.heap)
    (k:∀ h' fl1,B.StaysIn h' → h'.FunFrames B l → Tr h' B e cls a0 dd fl1 → s.heap.UpToSlots h' → Q () { s with heap:=h' }):wpAny M A (setFlight (.ref e) fo) Q E s:=by
  obtain ⟨oe,vs,T,oT,ts,he,rfl,rfl,hd,h0,h1,nT,hTe,hT,hdT,h3⟩:=tr
  have h3':3 < ts.size:=(Array.getElem?_eq_some_iff.mp h3).1
  have u:=ZaV (·.setIfInBounds 3 (fo.elim Value.none fun f => rawInt f)) hT hdT
  unfold setFlight
  refine wpAny_bind (wpAny_field he hd h1 ?_)
  rw [if_pos (show (Value.ref T != Value.none) = true from by simp)]
  refine wpAny_setField hT hdT h3' (k _ (fo.elim Value.none fun f => rawInt f) (fun b o q => ?_) (Zbg u fl) ⟨oe,vs,T,_,_,?_,rfl,rfl,hd,h0,h1,nT,hTe,Heap.get?_update_self _ hT (Obj.isFreed_of_fields (Obj.data_mapFields hdT _)),Obj.data_mapFields hdT _,by simp [h3']⟩ u)
  · rw [Heap.get?_update_other _ _ fun z => by subst z; rw [nT] at q; cases q]
    exact st b o q
  · rw [Heap.get?_update_other _ _ hTe]; exact he
end
section
variable {M:Model} {A:Around} {E:Value → Shared → Prop} {s:Shared} {P:Program} {w:World} {B:Heap} {env:Env} {outer:List Env} {H:Hp} {L e t:Addr} {cls:Value} {dd:Option Addr} {fl:Value} {Q:Unit → Shared → Prop} {B0:Heap}
theorem Air.leaveAny (a:Air P w B (env :: outer) H s.heap e t cls dd fl) (hfr:A.frames = some (env :: outer)) (hf:env.frame = some L) (k:∀ h',Air P w B outer H h' e t cls dd .none → s.heap.UpToSlots h' → Q () { s with heap:=h' }) :
    wpAny M A (leaving env (.ref e)) Q E s:=by
  unfold leaving
  refine wpAny_bind (Ze5 hfr a.fr hf a.tr a.st a.nb fun h1 st1 fr1 tr1 u1 => ?_)
  have a1:Air P w B (env :: outer) H h1 e t cls dd (rawInt L):=⟨Zdc a.hok a.st st1 a.tk,st1,a.nb,fr1,tr1,a.tk⟩
  refine Air.off (s:={ s with heap:=h1 }) a1 fun h2 a2 u2 => ?_
  obtain ⟨_,_,fr⟩:=a2.fr
  exact k h2 ⟨a2.hok,a2.st,a2.nb,fr,a2.tr,a2.tk⟩ (u1.trans u2)
theorem Zfr {x:Value} {env env':Env} (h:env'.frame = env.frame):noteFrame x env' = noteFrame x env:=by
  unfold noteFrame PySem.frameOf
  rw [h]
theorem Zgi {B:Heap} {as:List Addr} {b:Addr} (h:B.get? b = none):(PySem.W.hideAll B as).get? b = none:=by
  cases q:(PySem.W.hideAll B as).get? b with
  | none => rfl
  | some o => have:=PySem.W.of_hideAll _ q; rw [h] at this; cases this
theorem Zdh {h h' B:Heap} {C:Addr} (sb:Heap.SameBut C h h'):∀ {l:List Env},h.FunFrames B l → C ∉ frs l → h'.FunFrames (PySem.W.hideAll B [C]) l
  | [],_,_ => trivial
  | env :: r,⟨hk,⟨L,o,hf,hb,ho,hd⟩,hr⟩,hC => ⟨hk,⟨L,o,hf,Zgi hb,sb.extBut L o (fun z => hC ((Zca hf).mpr (.inl z.symm))) ho,hd⟩,Zdh sb hr fun z => hC ((Zca hf).mpr (.inr z))⟩
theorem Air.but {l:List Env} {h h':Heap} {C:Addr} (a:Air P w B l H h e t cls dd fl) (hC:∃ o,B.get? C = some o) (nC:H C = none) (fC:C ∉ frs l) (sb:Heap.SameBut C h h'):Air P w (PySem.W.hideAll B [C]) l H h' e t cls dd fl:=by
  obtain ⟨oC,hC⟩:=hC
  have keep:∀ b o,b ≠ C → h.get? b = some o → h'.get? b = some o:=fun b o hb q => sb.extBut b o hb q
  have hid:∀ b o,(PySem.W.hideAll B [C]).get? b = some o → B.get? b = some o ∧ b ≠ C:=fun b o q => ⟨PySem.W.of_hideAll _ q,fun z => by
    subst z
    rw [PySem.W.hideAll_none _ (List.mem_singleton.mpr rfl)] at q; cases q⟩
  refine ⟨fun b o q => (a.hok b o q).stay (fun c u hc z => keep c u (fun e => ?_) z) (fun _ z => z) fun _ _ z => z,fun b o q => keep b o (hid b o q).2 (a.st b o (hid b o q).1),?_,?_,?_,fun b u q => ?_⟩
  · subst e
    rcases hc with rfl | hc
    · rw [nC] at q; cases q
    · rw [nC] at hc; cases hc
  · cases q:(PySem.W.hideAll B [C]).get? e with
    | none => rfl
    | some o => have:=(hid e o q).1; rw [a.nb] at this; cases this
  · exact Zdh sb a.fr fC
  · obtain ⟨oe,vs,T,oT,ts,he,h1,h2,hd,h3,h4,nT,hTe,hT,hdT,h5⟩:=a.tr
    refine ⟨oe,vs,T,oT,ts,keep e oe (fun z => ?_) he,h1,h2,hd,h3,h4,?_,hTe,keep T oT (fun z => ?_) hT,hdT,h5⟩
    · subst z; rw [a.nb] at hC; cases hC
    · cases q:(PySem.W.hideAll B [C]).get? T with
      | none => rfl
      | some o => have:=(hid T o q).1; rw [nT] at this; cases this
    · subst z; rw [nT] at hC; cases hC
  · obtain ⟨o,ho⟩:=a.tk b u q
    exact ⟨o,PySem.W.hideAll_get _ ho fun hm => by rw [List.mem_singleton.mp hm,nC] at q; cases q⟩
end
def Zhi (Y:Cx) (E:XK):Value → Shared → Prop:=fun ev s' => ∃ pins σ H1 s1,Inv Y pins σ H1 s1 ∧ CXx Y.prog Y.w Y.stack H1 s1 E ev s'
abbrev Zgj (X:Cx) (scope:Scope) (N:List Str) (s₀:Shared) (H₀:Hp) (C:Addr) (fp:List Addr) (E:XK):Cx:=(Za2 X scope N s₀ H₀ C fp).wish (Zhi (Za2 X scope N s₀ H₀ C fp) E)
theorem ZiB {X:Cx} {scope:Scope} {N:List Str} {s₀:Shared} {H₀:Hp} {C:Addr} {fp:List Addr} {E:XK}:Zfp (Zgj X scope N s₀ H₀ C fp E) fun _ => E:=fun pins σ H s e s' I h => ⟨pins,σ,H,s,I.unwish,h⟩
section
variable {X:Cx} {tg iter elt:Expr} {scope:Scope} {pos:Pos} {wi:TI} {g:TG} {te:TE} {own:List Str} {caps:List (Nat × Str)}
theorem Zfs {EX:XK} {pins:List (Addr × Obj)} {σ:St} {H:Hp} {s:Shared} {fp:List Addr} {it:Addr} {tn:Nat → Heap → Prop} {J:It} {E:Value → Shared → Prop} {RR:Value → Addr → Result → Shared → Prop} {QL:List V → Hp → Prop}
    (I:Inv X pins σ H s) (hc:X.calm = true) (T:Turn X.prog X.w X.K tg J fp it tn) (st:tn 0 s.heap) (hf:∀ b ∈ fp,Zer X pins H b)
    (hkind:scope.kind = .function) (hcell:∀ y ∈ scope.names,y.2 ≠ .cell) (hfree:∀ y,(y,NameKind.free) ∈ scope.names → ∃ c,X.env.cells.lookup y = some c) (hcap:CapsOk X scope caps)
    (hg:∀ s₀ H₀ C,PG (Za2 X scope (own ++ caps.map (·.2)) s₀ H₀ C fp) tg g) (he:∀ s₀ H₀ C,PE (Zgj X scope (own ++ caps.map (·.2)) s₀ H₀ C fp EX) elt te)
    (hB:ZcI own.length caps g te σ J H QL)
    (fin:∀ D C s' m ys H',s.heap.objs.size ≤ C → D ≠ C → s'.heap.Ns C m → Inv X pins σ (upd H' D (.lst ys)) s' → H' D = none → H' C = none → QL ys H' → RR (.ref D) C (.ok .next) s')
    (finE:∀ D C ev s',s.heap.objs.size ≤ C → D ≠ C → Zhi (Za2 X scope (own ++ caps.map (·.2)) s H C fp) EX ev s' → notedBy (model X.prog X.w) X.A (compEnvC scope (ZdJ X.env.cells scope.names []) C X.env) (fun x s'' => RR (.ref D) C (.error x) s'') ev s') :
    wpAny (model X.prog X.w) X.A (newList []) (fun acc s₃ => wpAny (model X.prog X.w) X.A (newFunctionEnv scope X.env.globals (ZdJ X.env.cells scope.names []) [] X.env.qual none .none (some X.env)) (fun cenv s₄ =>
      codeAny (model X.prog X.w) X.A (.compStart (.ListComp elt [⟨tg,iter,[],0⟩] scope pos) 0 (.ref it) acc { cenv with scope:=relabel scope X.env }) (RR acc cenv.locals) s₄) E s₃) E s:=by
  refine wpAny_newObj_type (wpAny_newFunctionEnv hcell (by intro y hy; simp at hy) (fun h₁ hns₁ hsb₁ => ?_) hkind)
  dsimp only at hns₁ hsb₁ ⊢
  generalize hH2:s.heap.push { cls:=.type "list", dict:=none,data:=.seq ([]:List Value).toArray } = H2 at hns₁ hsb₁ ⊢
  have hC:H2.objs.size = s.heap.objs.size + 1:=by rw [← hH2,Heap.size_push]
  generalize hCC:H2.objs.size = C at *
  have hCle:s.heap.objs.size ≤ C:=by rw [hC]; exact Nat.le_succ _
  generalize hDD:s.heap.objs.size = D at *
  have hDC:D ≠ C:=by rw [hC]; exact Nat.ne_of_lt (Nat.lt_succ_self _)
  have below:∀ b,b < D → b ≠ C ∧ b ≠ D:=fun b hb => ⟨by rw [hC]; exact Nat.ne_of_lt (Nat.lt_succ_of_lt hb),Nat.ne_of_lt hb⟩
  have lts:∀ {b o},s.heap.get? b = some o → b < D:=fun {b o} e => by rw [← hDD]; exact Heap.lt_size e
  have old:∀ b o,s.heap.get? b = some o → h₁.get? b = some o:=fun b o e => hsb₁.extBut b o (below b (lts e)).1 (Heap.get?_push_of_some _ (hH2 ▸ Heap.get?_push_of_some _ e))
  have hacc:h₁.get? D = some { cls:=.type "list", data:=.seq ([]:List Value).toArray 0 }:=hsb₁.extBut _ _ hDC (Heap.get?_push_of_some _ (hH2 ▸ (hDD ▸ Heap.get?_push_size _ rfl)))
  have hlt:∀ b ∈ fp,b < D:=fun b hb => let ⟨o,e,_⟩:=T.obj 0 _ st b hb; lts e
  have freshS:∀ b,D ≤ b → s.heap.get? b = none:=fun b hb => by
    cases e:s.heap.get? b with
    | none => rfl
    | some o => exact absurd (lts e) (Nat.not_lt.mpr hb)
  have nH:∀ b,D ≤ b → H b = none:=fun b hb => I.hok.fresh (by rw [hDD]; exact hb)
  let Y:Cx:=Za2 X scope (own ++ caps.map (·.2)) s H C fp
  have okY:Y.Ok:=ZdZ I hkind hcell hfree (by rw [hDD]; exact hCle) hf (by rw [hDD]; exact hlt)
  have sub:∀ x c,(ZdJ X.env.cells scope.names []).lookup x = some c → X.env.cells.lookup x = some c:=fun x c e => Zcs scope.names [] (fun p hp => (nomatch hp)) (x,c) (PySem.mem_of_lookup e)
  have celllt:∀ x c,X.env.cells.lookup x = some c → c < D:=fun x c e => by
    obtain ⟨v,o,ho,_⟩:=I.cell x c e
    exact lts ho
  have stklt:∀ b ∈ frs X.stack,b < D:=fun b hb => by
    rcases List.mem_cons.mp (I.stkSub b hb) with e | e
    · rw [e,← hDD]; exact I.lt
    · obtain ⟨_,o,ho,_⟩:=I.funs.mem e
      exact lts ho
  have I0:Inv Y [] (st0 own.length caps σ) H { s with heap:=h₁,toks:=s.toks + ([]:List (Str × Value)).length }:=by
    refine ⟨okY,rfl,I.bare,Un.kept old,⟨_,hns₁,fun i x v h1 h2 h3 => ?_⟩,fun x c e => ?_,nH C hCle,fun x c e => I.freeC x c (sub x c e),fun p hp => ?_,I.hok.kept old,?_⟩
    · obtain ⟨hk,p,hp,hv⟩:=Zf6 h2
      have h1':caps[i - own.length]?.map (·.2) = some x:=by
        have:(own ++ caps.map (·.2))[i]? = some x:=h1
        rw [List.getElem?_append_right hk,List.getElem?_map] at this
        exact this
      rw [hp] at h1'
      cases h1'
      obtain ⟨q1,q2,q3⟩:=hcap.mem p (List.mem_of_getElem? hp)
      obtain ⟨m,hn,hl⟩:=I.loc
      obtain ⟨u,r,l⟩:=hl p.1 p.2 v q1 hv (by rcases q3 with z | z; exact .inr (.inl z); exact .inr (.inr z))
      refine ⟨u,r,.inr ⟨Zck q2,?_⟩⟩
      rcases l with ⟨z,_⟩ | ⟨_,c,hc',z⟩
      · rcases q3 with y | y <;> (rw [y] at z; cases z)
      · have hm:(p.2,NameKind.free) ∈ scope.names:=PySem.mem_of_lookup q2
        obtain ⟨d,hd⟩:=Zct scope.names [] hm ⟨c,hc'⟩
        obtain ⟨d',hd'⟩:=Za4 hd
        have e:=sub _ _ hd'
        rw [hc'] at e
        cases e
        obtain ⟨oc,ho,hdt⟩:=z
        exact ⟨c,hd',oc,old _ _ ho,hdt⟩
    · obtain ⟨v,o,ho,hd⟩:=I.cell x c (sub x c e)
      exact ⟨v,o,old _ _ ho,hd⟩
    · exact absurd (show p ∈ ([]:List (Addr × Obj)) from hp) (by simp)
    · rw [Zf5]
      show _ = (own ++ caps.map (·.2)).length
      rw [List.length_append,List.length_map]
  have pinD:∀ {its:List Value} {n:Nat} {σ':St} {H':Hp} {s':Shared},Inv Y [] σ' H' s' → H' D = none → s'.heap.get? D = some { cls:=.type "list", data:=.seq its.toArray n } → Inv Y [(D,{ cls:=.type "list", data:=.seq its.toArray n })] σ' H' s':=fun {its n σ' H' s'} J hn e =>
    J.pins_of fun p hp => by
      have ep:p = (D,{ cls:=.type "list", data:=.seq its.toArray n }):=List.mem_singleton.mp hp
      subst ep
      refine ⟨e,hn,hDC,fun z => ?_,fun v z => by cases z⟩
      exact absurd (stklt D z) (Nat.lt_irrefl _)
  obtain ⟨W,⟨m0,w0⟩,turn⟩:=hB
  have fpY:∀ {H':Hp} {pins':List (Addr × Obj)},(∀ b ∈ fp,H' b = none) → (∀ p ∈ pins',∀ b ∈ fp,p.1 ≠ b) → ∀ b ∈ fp,Zer Y pins' H' b:=fun {H' pins'} hn hp b hb =>
    ⟨hn b hb,(okY.exf b hb).1,okY.exfs b hb,.inl hb,(okY.exf b hb).2,fun p q => hp p (by simpa [Y,Za2] using q) b hb⟩
  have loop:∀ s₃:Shared,s₃ = { s with heap:=h₁,toks:=s.toks + ([]:List (Str × Value)).length } →
      codeAny (model X.prog X.w) X.A (.compLoop (.ListComp elt [⟨tg,iter,[],0⟩] scope pos) 0 (.ref it) (.ref D) (compEnvC scope (ZdJ X.env.cells scope.names []) C X.env)) (RR (.ref D) C) s₃:=by
    rintro s₃ rfl
    refine Zdx (fun k s' => ∃ (i:Nat) (ys:List V) (its:List Value) (n:Nat) (H':Hp),Inv Y [(D,{ cls:=.type "list", data:=.seq its.toArray n })] (st0 own.length caps σ) H' s' ∧ tn i s'.heap ∧ (∀ b ∈ fp,H' b = none) ∧ Vals ys its ∧ W i k ys H') ?_ m0
      ⟨0,[],[],0,H,pinD I0 (nH D (Nat.le_refl _)) hacc,T.keep _ _ _ st fun b _ o e => old b o e,fun b hb => (hf b hb).1,.nil,w0⟩
    rintro k s3 ⟨i,ys,its,n,H3,I3,st3,fr3,rv,w3⟩
    obtain ⟨pD,nD,_⟩:=I3.pin (D,{ cls:=.type "list", data:=.seq its.toArray n }) (List.mem_append_right _ List.mem_cons_self)
    have ff:=fpY (pins':=[(D,{ cls:=.type "list", data:=.seq its.toArray n })]) fr3 (fun p hp b hb => by
      rw [List.mem_singleton.mp hp]; exact (Ne.symm (below b (hlt b hb)).2))
    obtain ⟨hsz,turn⟩:=turn i k ys H3 w3
    rcases turn with ⟨stop,q⟩ | ⟨go,hsz',NN,hNN,step⟩
    · refine thn (T.done Y rfl rfl rfl hc i _ s3 _ H3 _ I3 ff st3 stop) fun r s4 ⟨hr,I4⟩ => ?_
      subst hr
      obtain ⟨m4,hn4,_⟩:=I4.loc
      obtain ⟨pD4,nD4,_⟩:=I4.pin (D,{ cls:=.type "list", data:=.seq its.toArray n }) (List.mem_append_right _ List.mem_cons_self)
      refine fin D C s4 m4 ys H3 hCle hDC hn4 ?_ nD4 I4.free q
      have hk:=I4.base
      have hok4:HOk X.prog X.w H3 s4.heap:=I4.hok
      have neD:∀ b u,H3 b = some u → b ≠ D:=fun b u e z => by rw [z,nD4] at e; cases e
      refine I.call' (ch:=fp) I4.os ⟨fun b o e n hb hx => hk.keep b o e n hb hx,fun b o e n hb hx => hk.slot b o e n hb hx,fun b o e n hx => ?_,fun b o e hx => hk.there b o e hx,fun b xs e => ?_,fun b o u e => ?_,fun b ps e => ?_⟩ ?_ I4.bare ?_
      · rw [Zan (below b (lts e)).2]; exact hk.free b o e n hx
      · have:=hk.tups b xs e
        rw [Zan (neD b _ this)]; exact this
      · have:=hk.frzs b o u e
        rw [Zan (neD b _ this)]; exact this
      · obtain ⟨more,e'⟩:=hk.tbls b ps e
        exact ⟨more,by rw [Zan (neD b _ e')]; exact e'⟩
      · intro b u e
        by_cases hb:b = D
        · subst hb
          rw [Zaf] at e
          cases e
          exact ⟨hsz,its,n,rv,pD4⟩
        · rw [Zan hb] at e
          exact (hok4 b u e).stay (fun c v _ q => q) (fun c q => by rw [Zan (neD c _ q)]; exact q) fun c xs q => by rw [Zan (neD c _ q)]; exact q
      · intro b hb
        obtain ⟨_,f1,_,f3,f4,f5⟩:=hf b hb
        exact ⟨f3,f1,f4,f5⟩
    · refine thn (T.item Y rfl rfl rfl hc i _ s3 _ H3 _ I3 ff st3 go) fun r s4 ⟨u,hr,h4⟩ => ?_
      subst hr
      refine thn h4 fun _ s5 ⟨x,H5,I5,r5,y5,st5,fr5⟩ => ?_
      have ff5:=fpY (pins':=[(D,{ cls:=.type "list", data:=.seq its.toArray n })]) fr5 (fun p hp b hb => by
        rw [List.mem_singleton.mp hp]; exact (Ne.symm (below b (hlt b hb)).2))
      have I5':=I5.pinned ff5 (T.obj _ _ st5)
      refine thn (hg s H C _ s5 _ H5 x u _ I5' r5 (step x H5 y5)) fun _ s6 ⟨σ6,H6,I6,wk,q6⟩ => ?_
      refine wpAny_mono (he s H C _ s6 σ6 H6 _ (I6.wish _) q6) (fun y s7 ⟨v,H7,I7,r7,n7⟩ => ?_) (fun ev s' r => finE D C ev s' hCle hDC r)
      have I7:=I7.unwish
      obtain ⟨m',hm,w7⟩:=hNN v H7 n7
      obtain ⟨pD7,nD7,_,_,_⟩:=I7.pin (D,{ cls:=.type "list", data:=.seq its.toArray n }) (List.mem_append_right _ (List.mem_append_left _ List.mem_cons_self))
      refine append_at (n:=n) pD7 (fun h' hs' hD' => ?_) (by rw [List.size_toArray,← rv.length]; exact hsz)
      have st7:tn (i + 1) s7.heap:=T.keep _ _ _ st5 fun b hb o e => (I7.pin (b,o) (List.mem_append_right _ (List.mem_append_right _ (Za5 hb e)))).1
      have fr7:∀ b ∈ fp,H7 b = none:=fun b hb => by
        obtain ⟨o,e,d⟩:=T.obj _ _ st5 b hb
        exact (I7.pin (b,o) (List.mem_append_right _ (List.mem_append_right _ (Za5 hb e)))).2.1
      have I8:Inv Y [] σ6 H7 s7:=I7.pins_of fun p hp => (nomatch hp)
      have I9:Inv Y [] (st0 own.length caps σ) H7 s7:=I8.weak (by rw [I0.len,I8.len]) wk
      have I10:Inv Y [] (st0 own.length caps σ) H7 { s7 with heap:=h' }:=I9.turned (t':=s7.toks) (it:=D) (fun b o hb e => hs'.extBut b o hb e) nD7 hDC (.inr (Nat.le_of_eq hDD)) (fun x c e => Nat.ne_of_lt (celllt x c (sub x c e))) (fun p hp => absurd (show p ∈ ([]:List (Addr × Obj)) from hp) (by simp))
      refine ⟨m',hm,i + 1,ys ++ [v],its ++ [y],n + 1,H7,pinD I10 nD7 ?_,?_,fr7,rv.append (.cons r7 .nil),w7⟩
      · rw [hD',List.push_toArray]
      · exact T.keep _ _ _ st7 fun b hb o e => hs'.extBut b o (below b (hlt b hb)).2 e
  have tn1:tn 0 h₁:=T.keep _ _ _ st fun b _ o e => old b o e
  exact codeAny_compStart_list (loop _ rfl) (T.self _ 0 _ _ _ tn1 (loop _ rfl))
end
section
variable {P:Program} {w:World} {K:PySem.W.Frag} {mg:Str → Option Value} {base:Heap} {N:List Str} {qual:Str} {sc:Scope} {f:Addr} {cd:Value} {A:Around} {outer:List Env} {s0:Shared} {H0:Hp} {E:XK}
variable {tg iter elt:Expr} {scope:Scope} {pos:Pos} {wi:TI} {g:TG} {te:TE}
theorem Zi6 {pins:List (Addr × Obj)} {σ:St} {H1 H2:Hp} {s1 s2:Shared} {e t:Addr} {cls fl:Value} {dd:Option Addr} {B:Heap} {fp:List Addr} (I:Inv (cxX P w K mg base N qual sc f cd A outer s0 H0 E) pins σ H1 s1) (hf:∀ b ∈ fp,Zer (cxX P w K mg base N qual sc f cd A outer s0 H0 E) pins H1 b)
    (os:s2.os = s1.os) (bare:AllBare s2.gens) (U:Un (frs (cxX P w K mg base N qual sc f cd A outer s0 H0 E).stack) fp H1 H2 s1.heap s2.heap) (a:Air P w B (cxX P w K mg base N qual sc f cd A outer s0 H0 E).stack H2 s2.heap e t cls dd fl)
    (in1:∀ b o,s1.heap.get? b = some o → H1 b = none → b ∉ frs (cxX P w K mg base N qual sc f cd A outer s0 H0 E).stack → b ∉ fp → B.get? b = some o)
    (in2:∀ b o,s1.heap.get? b = some o → b ∉ frs (cxX P w K mg base N qual sc f cd A outer s0 H0 E).stack → b ∉ fp → ∃ o',B.get? b = some o') (q:E cls dd H2):(cxX P w K mg base N qual sc f cd A outer s0 H0 E).xe (.ref e) s2:=by
  show wpAny (model P w) (A.deeper (envOfC qual sc s0.heap.objs.size f cd)) (leaving (envOfC qual sc s0.heap.objs.size f cd) (.ref e)) _ _ s2
  have hfr:=I.ok.frames
  refine Air.leaveAny (L:=s0.heap.objs.size) a hfr rfl fun h3 a3 up => ?_
  have ib:Un (frs outer) [] H0 H1 s0.heap s1.heap:=I.base
  have nfp:∀ b o,s0.heap.get? b = some o → b ∉ fp:=fun b o e hb => by
    obtain ⟨_,_,_,f3,_⟩:=hf b hb
    rcases f3 with z | z
    · exact absurd (show b ∈ ([]:List Addr) from z) (by simp)
    · exact absurd (Nat.lt_of_lt_of_le (Heap.lt_size e) z) (Nat.lt_irrefl _)
  have ne:∀ b o,s0.heap.get? b = some o → b ≠ s0.heap.objs.size:=fun b o q z => by
    subst z
    exact absurd (Heap.lt_size q) (Nat.lt_irrefl _)
  have nm:∀ b o,s0.heap.get? b = some o → b ∉ frs outer → b ∉ frs (envOfC qual sc s0.heap.objs.size f cd :: outer):=fun b o q hb z => by
    rcases (Zca (L:=s0.heap.objs.size) rfl).mp z with e | e
    · exact ne b o q e
    · exact hb e
  have sub:∀ b,b ∈ frs outer → b ∈ frs (envOfC qual sc s0.heap.objs.size f cd :: outer):=fun b hb => (Zca (L:=s0.heap.objs.size) rfl).mpr (.inr hb)
  have i1:∀ b o,s0.heap.get? b = some o → H0 b = none → b ∉ frs outer → B.get? b = some o:=fun b o q n hb => in1 b o (ib.keep b o q n hb (by simp)) (ib.free b o q n (by simp)) (nm b o q hb) (nfp b o q)
  have i2:∀ b o,s0.heap.get? b = some o → b ∉ frs outer → ∃ o',B.get? b = some o':=fun b o q hb => by
    obtain ⟨o',e⟩:=ib.there b o q (by simp)
    exact in2 b o' e (nm b o q hb) (nfp b o q)
  refine ⟨e,t,cls,dd,H2,B,rfl,os.trans I.os,bare,⟨fun b o q n hb _ => a3.st b o (i1 b o q n hb),fun b o q n hb hx => ?_,fun b o q n hx => ?_,fun b o q hx => ?_,fun b xs q => U.tups b xs (ib.tups b xs q),fun b o u q => U.frzs b o u (ib.frzs b o u q),fun b ps q => ?_⟩,a3,i1,i2,q⟩
  · obtain ⟨sl,e1⟩:=ib.slot b o q n hb (by simp)
    obtain ⟨sl',e'⟩:=U.slot b _ e1 (ib.free b o q n (by simp)) (sub b hb) (nfp b o q)
    obtain ⟨_,o',e2,nf⟩:=a.fr.mem (sub b hb)
    rw [e'] at e2
    cases e2
    obtain ⟨sl2,e3⟩:=up b _ e' nf
    exact ⟨sl2,e3⟩
  · obtain ⟨o',e1⟩:=ib.there b o q (by simp)
    exact U.free b o' e1 (ib.free b o q n (by simp)) (nfp b o q)
  · by_cases hb:b ∈ frs outer
    · obtain ⟨_,o',e',nf⟩:=a.fr.mem (sub b hb)
      obtain ⟨sl,e2⟩:=up b _ e' nf
      exact ⟨_,e2⟩
    · obtain ⟨o',z⟩:=i2 b o q hb
      exact ⟨o',a3.st b o' z⟩
  · obtain ⟨m1,e1⟩:=ib.tbls b ps q
    obtain ⟨m2,e2⟩:=U.tbls b _ e1
    exact ⟨m1 ++ m2,by rw [e2,Array.append_assoc]⟩
theorem Ze6 (own:List Str) (caps:List (Nat × Str)) (hi:PI (cxX P w K mg base N qual sc f cd A outer s0 H0 E) tg iter wi) (hg:∀ fp s₀ H₀ C,PG (Za2 (cxX P w K mg base N qual sc f cd A outer s0 H0 E) scope (own ++ caps.map (·.2)) s₀ H₀ C fp) tg g)
    (he:∀ fp s₀ H₀ C,PE (Zgj (cxX P w K mg base N qual sc f cd A outer s0 H0 E) scope (own ++ caps.map (·.2)) s₀ H₀ C fp E) elt te)
    (hcap:CapsOk (cxX P w K mg base N qual sc f cd A outer s0 H0 E) scope caps)
    (hfr:(scope.names.all fun y => !(y.2 == NameKind.free) || ((cxX P w K mg base N qual sc f cd A outer s0 H0 E).env.cells.lookup y.1).isSome) = true:=by rfl)
    (hkind:scope.kind = .function:=by rfl) (hcell:∀ y ∈ scope.names,y.2 ≠ .cell:=by decide +kernel)
    (hnames:∀ y ∈ scope.names,y.2 = .local → scope.names.lookup y.1 = some .local:=by decide +kernel) (hs:∀ x,foldedSetIterable iter (cxX P w K mg base N qual sc f cd A outer s0 H0 E).env x = pure x:=by intro _; rfl) :
    PE (cxX P w K mg base N qual sc f cd A outer s0 H0 E) (.ListComp elt [⟨tg,iter,[],0⟩] scope pos) (ZhG own.length caps wi g te):=by
  generalize hX:cxX P w K mg base N qual sc f cd A outer s0 H0 E = X at *
  have hcalm:X.calm = true:=by rw [← hX]; rfl
  intro pins s σ H Q I h
  have hfree:=Zds hfr
  have hclos:=Zb8 hfree
  rw [eval_ListComp]
  refine wpAny_comprehension_free (use:=none) rfl hs hclos hkind hnames (thn (hi pins s σ H _ I h) fun v s1 h1 => thn h1 fun itv s2 h2 => ?_)
  obtain ⟨it,fp,tn,J,H2,e,I2,T,st2,f2,hB⟩:=h2
  subst e
  refine Zfs (EX:=E) (RR:=fun acc C => compPost (model X.prog X.w) X.A X.xe none (EP X pins σ Q) acc C) I2 hcalm T st2 f2 hkind hcell hfree hcap (hg fp) (he fp) hB ?_ ?_
  · intro D C s' m ys H' hC hDC hn I3 nD nC q
    refine ⟨m,hn,fun h' hs' => ⟨.ref D,upd H' D (.lst ys),?_,rfl,q D nD⟩⟩
    exact I3.turned (t':=s'.toks) (it:=C) (fun b o hb e => hs'.extBut b o hb e) (by rw [Zan (Ne.symm hDC)]; exact nC) (Ne.symm (Nat.ne_of_lt (Nat.lt_of_lt_of_le I2.lt hC))) (.inr (Nat.le_trans I2.sz hC))
      (fun x c e z => by
        obtain ⟨v,o,ho,_⟩:=I2.cell x c e
        rw [z] at ho
        exact absurd (Nat.lt_of_lt_of_le (Heap.lt_size ho) hC) (Nat.lt_irrefl _))
      (fun p hp z => by
        have:=(I2.pin p hp).1
        rw [z] at this
        exact absurd (Nat.lt_of_lt_of_le (Heap.lt_size this) hC) (Nat.lt_irrefl _))
  · rintro D C ev s' hC hDC ⟨pins1,σ1,H1,s1',I1,e,t,cls,dd,H3,B,rfl,os,bare,U,a,in1,in2,q⟩
    have stk:∀ b ∈ frs X.stack,b < s2.heap.objs.size:=fun b hb => by
      rcases List.mem_cons.mp (I2.stkSub b hb) with e | e
      · rw [e]; exact I2.lt
      · obtain ⟨_,o,ho,_⟩:=I2.funs.mem e
        exact Heap.lt_size ho
    have old:∀ b o,s2.heap.get? b = some o → b ≠ C:=fun b o q z => by
      subst z
      exact absurd (Nat.lt_of_lt_of_le (Heap.lt_size q) hC) (Nat.lt_irrefl _)
    have fC:C ∉ frs X.stack:=fun z => absurd (Nat.lt_of_lt_of_le (stk C z) hC) (Nat.lt_irrefl _)
    have hst:X.stack = X.env :: X.outer:=by rw [← hX]; rfl
    have hef:X.env.frame = some X.env.locals:=by rw [← hX]; rfl
    have hP:X.prog = P:=by rw [← hX]; rfl
    have hw:X.w = w:=by rw [← hX]; rfl
    have base1:Un (frs X.stack) fp H2 H1 s2.heap s1'.heap:=I1.base
    have a:Air X.prog X.w B (X.env :: X.outer) H3 s'.heap e t cls dd .none:=by rw [← hst]; exact a
    show wpAny _ _ (noteFrame (.ref e) _) _ _ s'
    rw [Zfr (env:=X.env) (env':=compEnvC scope (ZdJ X.env.cells scope.names []) C X.env) rfl]
    refine Ze5 (by rw [← hst]; exact I2.ok.frames) a.fr hef a.tr a.st a.nb fun h2 st3 fr3 tr3 up3 => ?_
    have a2:Air X.prog X.w B X.stack H3 h2 e t cls dd (rawInt X.env.locals):=by rw [hst]; exact ⟨Zdc a.hok a.st st3 a.tk,st3,a.nb,fr3,tr3,a.tk⟩
    obtain ⟨mC,nsC,_⟩:=I1.loc
    obtain ⟨oC,es,ep,hoC,hdC,skC,nfC⟩:=nsC
    have bC:B.get? C = some oC:=in1 C oC hoC I1.free fC
    have nC:H3 C = none:=U.free C oC hoC I1.free (by simp)
    refine ⟨mC,⟨oC,es,ep,st3 C oC bC,hdC,skC,nfC⟩,fun h' sb cenv' _ => ?_⟩
    have a3:=a2.but ⟨oC,bC⟩ nC fC sb
    unfold PySem.passOn
    have tr0:=a3.tr
    obtain ⟨oe,vs,T',oT,ts,he',rfl,rfl,hd,h0,h1',nT,hTe,hT,hdT,h5⟩:=tr0
    refine wpAny_bind (wpAny_field he' hd h1' ?_)
    rw [if_neg (show ¬ ((Value.ref T' == Value.none) = true) from by simp)]
    refine wpAny_bind (Zg1 (s:={ s' with heap:=h' }) cenv'.frame a3.fr a3.tr a3.st fun h4 fl4 st4 fr4 tr4 up4 => wpAny_throw ?_)
    have hidg:∀ b o,B.get? b = some o → b ≠ C → (PySem.W.hideAll B [C]).get? b = some o:=fun b o q nb => PySem.W.hideAll_get _ q fun z => nb (List.mem_singleton.mp z)
    have j1:∀ b o,s2.heap.get? b = some o → H2 b = none → b ∉ frs X.stack → b ∉ fp → (PySem.W.hideAll B [C]).get? b = some o:=fun b o q n hb hx => hidg b o (in1 b o (base1.keep b o q n hb hx) (base1.free b o q n hx) hb) (old b o q)
    have j2:∀ b o,s2.heap.get? b = some o → b ∉ frs X.stack → b ∉ fp → ∃ o',(PySem.W.hideAll B [C]).get? b = some o':=fun b o q hb hx => by
      obtain ⟨o1,e1⟩:=base1.there b o q hx
      obtain ⟨o2,e2⟩:=in2 b o1 e1 hb
      exact ⟨o2,hidg b o2 e2 (old b o q)⟩
    have up:∀ b o,b ∈ frs X.stack → s'.heap.get? b = some o → ∃ sl,h4.get? b = some { o with slots:=sl }:=fun b o hb q => by
      have nf:∀ vs,o.data ≠ .fields vs:=by
        obtain ⟨_,o',e',nf⟩:=a.fr.mem (by rw [← hst]; exact hb)
        rw [q] at e'
        cases e'
        exact nf
      obtain ⟨sl1,e1⟩:=up3 b o q nf
      have e2:=sb.extBut b _ (fun z => fC (by rw [← z]; exact hb)) e1
      obtain ⟨sl2,e3⟩:=up4 b _ e2 nf
      exact ⟨sl2,e3⟩
    have U4:Un (frs X.stack) fp H2 H3 s2.heap h4:=⟨fun b o q n hb hx => st4 b o (j1 b o q n hb hx),fun b o q n hb hx => by
        obtain ⟨sl,e1⟩:=base1.slot b o q n hb hx
        obtain ⟨sl',e2⟩:=U.slot b _ e1 (base1.free b o q n hx) hb (by simp)
        obtain ⟨sl3,e3⟩:=up b _ hb e2
        exact ⟨sl3,e3⟩,fun b o q n hx => by
        obtain ⟨o1,e1⟩:=base1.there b o q hx
        exact U.free b o1 e1 (base1.free b o q n hx) (by simp),fun b o q hx => by
        by_cases hb:b ∈ frs X.stack
        · obtain ⟨o1,e1⟩:=base1.there b o q hx
          obtain ⟨o2,e2⟩:=U.there b o1 e1 (by simp)
          obtain ⟨sl3,e3⟩:=up b o2 hb e2
          exact ⟨_,e3⟩
        · obtain ⟨o',z⟩:=j2 b o q hb hx
          exact ⟨o',st4 b o' z⟩,fun b xs q => U.tups b xs (base1.tups b xs q),fun b o u q => U.frzs b o u (base1.frzs b o u q),fun b ps q => by
        obtain ⟨m1,e1⟩:=base1.tbls b ps q
        obtain ⟨m2,e2⟩:=U.tbls b _ e1
        exact ⟨m1 ++ m2,by rw [e2,Array.append_assoc]⟩⟩
    have a4:Air X.prog X.w (PySem.W.hideAll B [C]) X.stack H3 h4 e t oe.cls oe.dict fl4:=⟨Zdc a3.hok a3.st st4 a3.tk,st4,a3.nb,fr4,tr4,a3.tk⟩
    subst hX
    exact Zi6 (s2:={ s' with heap:=h4 }) I2 f2 (os.trans I1.os) bare U4 a4 j1 j2 q
end
end L2
namespace L2
open PySem PySem.Spec PyProof.Rows PySem.Builtin.Str
theorem Zgk:∀ {zs:List Str} {us:List Value},Vals (zs.map V.str) us → ∃ l:List (Str × Tok),us = strValues l ∧ l.map (·.1) = zs
  | [],_,.nil => ⟨[],rfl,rfl⟩
  | z :: zs,u :: us,.cons r t => by
    obtain ⟨tk,rfl⟩:=r
    obtain ⟨l,rfl,rfl⟩:=Zgk t
    exact ⟨(z,tk) :: l,rfl,rfl⟩
section
variable {X:Cx}
theorem Zdy:MtR X "str.join" (fun x xs H Q => ∃ sep p zs,x = .str sep ∧ xs = [.ref p] ∧ SqL X.K H p (zs.map V.str) ∧ JoinOk sep zs = true ∧ Q (.str (Txt.join sep zs)) H):=by
  intro pins s σ H x xs v us Q I rx rs h
  obtain ⟨sep,p,zs,rfl,rfl,hq,hj,q⟩:=h
  obtain ⟨t,rfl⟩:=rx
  obtain ⟨u,rfl,r1⟩:=Zb4 rs
  cases r1
  obtain ⟨its,rv,pl,hz⟩:=I.list hq
  obtain ⟨l,rfl,rfl⟩:=Zgk rv
  have hl:tooLong ((l.map (·.1)).toArray.foldl (· + ·.length + sep.length) 0) = false:=by
    unfold JoinOk at hj
    rwa [Bool.not_eq_true'] at hj
  refine call_meets F.slot_str_join (typeIs_str _ _ _) F.entry_str_join (F.args_str_join_2 _ _) (meets_str_join_list sep t p l hl) ⟨pl.isList,post_join l ⟨joinFit_length hl,fun t' k => ?_⟩⟩
  exact ⟨.str _,H,I.tok _,⟨t',rfl⟩,q⟩
theorem Zg2 (K:PySem.W.Frag) (h:X.K = K):MtR X "str.join" (fun x xs H Q => ∃ sep p zs,x = .str sep ∧ xs = [.ref p] ∧ SqL K H p (zs.map V.str) ∧ JoinOk sep zs = true ∧ Q (.str (Txt.join sep zs)) H):=by subst h; exact Zdy
end
theorem Zdi {sep:Str} {zs:List Str} (h:(zs.map (·.length)).sum + zs.length * sep.length ≤ sizeLine):JoinOk sep zs = true:=by
  unfold JoinOk
  rw [StrLaws.joinTotal,Bool.not_eq_true']
  unfold tooLong
  exact decide_eq_false (by omega)
theorem Zgl {zs:List Str} {n:Nat} (h:∀ z ∈ zs,z.length ≤ n):(zs.map (·.length)).sum ≤ zs.length * n:=by
  induction zs with
  | nil => exact Nat.zero_le _
  | cons a r ih =>
    have h1:=h a (.head _)
    have h2:=ih fun z hz => h z (.tail _ hz)
    simp only [List.map_cons,List.sum_cons,List.length_cons,Nat.succ_mul]
    omega
theorem Ze7 {sep:Str} {zs:List Str} {n:Nat} (h:∀ z ∈ zs,z.length ≤ n):(Txt.join sep zs).length ≤ zs.length * n + zs.length * sep.length:=by
  show (glued sep zs).length ≤ _
  rw [StrLaws.glued_eq_join]
  have:=StrLaws.join_length_le sep zs
  have:=Zgl h
  omega
theorem Ze8 (x:Str) {y:Str} (hy:(y.length == 0) = false):Txt.split x y ≠ []:=by
  unfold Txt.split
  split
  · simp
  · split
    · simp
    · intro z
      have:=congrArg List.length z
      rw [length_partsBetween] at this
      simp at this
end L2
namespace L2
open PySem PySem.Spec PyProof.Rows
def Zd6:Value → Bool
  | .none => true
  | _ => false
def Zjh (K:PySem.W.Frag) (H:Hp) (v:V):Prop:=v = .non ∨ (∃ i,v = .int i) ∨ ∃ a ys,v = .ref a ∧ SqT K H a ys
theorem Ze9:∀ {xs:List V} {us:List Value},Vals xs us → us.any Zd6 = decide (V.non ∈ xs)
  | _,_,.nil => rfl
  | y :: xs,u :: us,.cons r t => by
    rw [List.any_cons,Ze9 t]
    have e:Zd6 u = decide (V.non = y):=by
      cases y with
      | non => cases r; rfl
      | bl b => cases r; rfl
      | int i => obtain ⟨t,rfl⟩:=r; rfl
      | str z => obtain ⟨t,rfl⟩:=r; rfl
      | byt z => obtain ⟨t,rfl⟩:=r; rfl
      | flt z => obtain ⟨t,rfl⟩:=r; rfl
      | ref a => cases r; rfl
      | ty a => cases r; rfl
    rw [e,Bool.eq_iff_iff,Bool.or_eq_true,decide_eq_true_iff,decide_eq_true_iff,decide_eq_true_iff,List.mem_cons]
section
variable {X:Cx} {k:Nat}
theorem ZiC (hr:Room k X.A):OpR X (compareOp .In) (fun x y H Q => x = .non ∧ ∃ p xs,y = .ref p ∧ SqL X.K H p xs ∧ (∀ v ∈ xs,Zjh X.K H v) ∧ Q (.bl (decide (V.non ∈ xs))) H):=by
  intro pins s σ H x y v u Q I rx ry h
  obtain ⟨rfl,p,xs,rfl,hq,ho,q⟩:=h
  cases rx
  cases ry
  have hu:=hr.units
  obtain ⟨its,r,pl,hz⟩:=I.list hq
  refine SeqAt.in_listAt Zd6 pl.isList (fun w hw => ?_) ⟨.bl _,H,I,rfl,?_⟩
  · obtain ⟨i,hi⟩:=List.getElem?_of_mem (show w ∈ its by simpa using hw)
    obtain ⟨hlt,e⟩:=List.getElem?_eq_some_iff.mp hi
    have hx:i < xs.length:=by rw [r.length]; exact hlt
    obtain ⟨w',hw',rw'⟩:=r.get (List.getElem?_eq_getElem hx)
    rw [hi] at hw'; cases hw'
    rcases ho xs[i] (List.getElem_mem hx) with e | ⟨j,e⟩ | ⟨a,ys,e,sq⟩ <;> rw [e] at rw'
    · cases rw'; exact SeqAt.EqAt.same _
    · obtain ⟨t,rfl⟩:=rw'; exact SeqAt.EqAt.int_none j t
    · cases rw'
      obtain ⟨ts,_,pt,_⟩:=I.tuple sq
      exact SeqAt.EqAt.tuple_none pt (by show X.A.units + _ < _; omega)
  · rw [show its.toArray.any Zd6 = its.any Zd6 by simp,Ze9 r]; exact q
end
end L2
namespace L2
open PySem PySem.Spec PyProof.Rows
theorem ZiD {X:Cx} (K:PySem.W.Frag) (h:X.K = K) {o e:Expr} {es:List Expr} {to:TE} {t:TA} {name:Str} {apos cpos:Pos} {T id:String} {r:V → List V → Hp → VK → Prop} (pa:PlainAttrs T) (slot:Slot T name id) (hty:typeOf (.builtin id) = pure (.type "method_descriptor")) (hm:MtR X id r) (ho:PE X o to) (ha:PA X (e :: es) t)
    (hbase:attributeBase o name X.env (eval o X.env) = eval o X.env:=by rfl)
    (hfew:((backTo cpos (starEach (e :: es) X.env)).all (fun x => !x.1) && (backToKw cpos (keywordEach [] X.env)).all (fun x => x.1.isSome)
      && decide ((e :: es).length + ([]:List Keyword).length + (if ([]:List Keyword).isEmpty then 0 else 1) < 30)) = true:=by rfl)
    (hline:(apos.endLine == cpos.line) = true:=by rfl) (hs:starEach (e :: es) X.env = (false,eval e X.env) :: starEach es X.env:=by rfl) (hplain:(backTo cpos (starEach es X.env)).any (·.1) = false:=by rfl) :
    PE X (.Call (.Attribute o name apos) (e :: es) [] cpos) (tBM K T r to t):=by subst h; exact ZbT pa slot hty hm ho ha hbase hfew hline hs hplain
end L2
namespace L2
open PySem PySem.Spec PyProof.Rows
theorem ZiE {X:Cx} {e:Expr} {te:TE} (h:PEI X e te):PE X e te:=by unfold PEI at h; exact h
theorem Zcw {X:Cx} {e:Expr} {es:List Expr} {te:TE} {t:TA} (ha:PEI X e te) (hr:PAI X es t) (hs:starEach (e :: es) X.env = (false,eval e X.env) :: starEach es X.env:=by rfl):PAI X (e :: es) (Zil te t):=by
  unfold PEI at ha
  unfold PAI at *
  exact Zaa ha hr hs
theorem ZhU {X:Cx} {a b:Expr} {ta tb:TE} {pos:Pos} {r:R2} (hr:IxR X r) (ha:PEI X a ta) (hb:PEI X b tb) (hs:ZfY b):PEI X (.Subscript a b pos) (tOp r ta tb):=by
  unfold PEI at *
  exact ZaI hr ha hb hs
end L2
namespace L2
open PySem PySem.Spec PyProof.Rows PySem.Builtin.Str
theorem Zd7 (x y:Str) (h:x.length ≤ 20000):(Txt.split x y).length ≤ 20002:=by
  have:=StrLaws.occ_length_le x y 0 x.length (x.length + 1)
  unfold Txt.split
  split
  · simp
  · split
    · simp
    · rw [length_partsBetween]; omega
end L2
namespace My
open PySem L2 PyProof.Rows
def top (i:Nat):Stmt:=PySem.Challenge.pw_turnframe_k82_tables_as_texts.main.body.getD i (.Pass ⟨0,0,0,0⟩)
abbrev Zbh:Stmt:=top 13
abbrev ZcM:Stmt:=top 14
abbrev Zcb:Stmt:=top 17
abbrev Za1:Stmt:=Zf2 (top 21) 0
abbrev ZaW:Stmt:=Zf2 (top 21) 8
abbrev Zbo:Stmt:=top 26
abbrev Zbd:Stmt:=top 27
abbrev Zbt:Stmt:=top 28
abbrev ZbM:Stmt:=top 29
abbrev Zbe:Stmt:=top 30
abbrev Zbu:Stmt:=top 31
abbrev Za9:Stmt:=top 32
abbrev ZbN:Stmt:=top 33
abbrev Zbp:Stmt:=top 34
abbrev Zcc:Stmt:=top 35
abbrev Zbv:Stmt:=top 36
abbrev ZcN:Stmt:=top 38
abbrev ZbO:Stmt:=top 39
abbrev Zbw:Stmt:=top 40
abbrev ZcO:Stmt:=top 41
abbrev Zdz:Stmt:=top 42
abbrev ZdA:Stmt:=top 43
abbrev Zcd:Stmt:=top 44
abbrev ZcP:Stmt:=top 45
abbrev ZdB:Stmt:=top 46
abbrev ZcQ:Stmt:=top 47
abbrev ZdC:Stmt:=top 48
abbrev ZbP:Stmt:=top 49
abbrev ZbQ:Stmt:=top 50
abbrev Zba:Stmt:=top 51
abbrev ZdD:Stmt:=top 52
abbrev Zbq:Stmt:=top 53
abbrev Zbx:Stmt:=top 54
abbrev ZcR:Stmt:=top 55
abbrev ZhV:Stmt:=top 56
structure Nm (mg:Str → Option Value):Prop where
  abs:mg "abs" = none
  isinstance:mg "isinstance" = none
  int:mg "int" = none
  bool:mg "bool" = none
  tuple:mg "tuple" = none
  list:mg "list" = none
  len:mg "len" = none
  range:mg "range" = none
  PB:∃ t,mg "PRIME_BOUND" = some (.int 1000000 t)
theorem nm_mk {mg:Str → Option Value} {v:Value} (h1:mg "PRIME_BOUND" = some v) (h2:∃ t,v = .int 1000000 t) (a1:mg "abs" = none) (a2:mg "isinstance" = none) (a3:mg "int" = none) (a4:mg "bool" = none) (a5:mg "tuple" = none) (a6:mg "list" = none) (a7:mg "len" = none) (a8:mg "range" = none):Nm mg :=
  ⟨a1,a2,a3,a4,a5,a6,a7,a8,let ⟨t,e⟩:=h2; ⟨t,by rw [h1,e]⟩⟩
structure Kd (K:PySem.W.Frag) (mg:Str → Option Value) (CF CR:Addr):Prop where
  clF:Cls K CF
  clR:Cls K CR
  nP:NoAttr K CR "prime"
  mkF:Mk0 K CF
  mgF:mg "Fractions" = some (.ref CF)
  mgR:mg "Rests" = some (.ref CR)
def fsR (p:Int):List (Str × V):=ZdO "prime" (.int p) []
theorem Zgm (p:Int):(fsR p).lookup ("prime" : Str) = some (.int p):=by
  unfold fsR
  rw [Zbl,if_pos rfl]
theorem ZiF (p:Int) {m:Str} (h:¬ m = "prime"):(fsR p).lookup m = none:=by
  unfold fsR
  rw [Zbl,if_neg h]
  rfl
structure Fc (a b:Int):Prop where
  pos:0 < b
  cop:Int.gcd a b = 1
def FrA (CF:Addr) (H:Hp) (a:Addr):Prop:=∃ dx,H a = some (.ins CF dx [])
def Zbi:Sp:=fun vs H Q _ => ∃ a b:Int,vs = [.int a,.int b] ∧ Q (.int (Int.gcd a b)) H
section
variable {P:Program} {w:World} {K:PySem.W.Frag} {mg:Str → Option Value} {base:Heap}
theorem sc_divisor:FnScope ["one", "other", "rest"] ["one", "other"] (Zag ZcM):=⟨rfl,rfl,rfl,by decide +kernel,rfl,by decide +kernel,by decide +kernel⟩
theorem Zft (h:Here K mg "divisor" ZcM) (T:Nm mg):Has P w K mg base "divisor" 1 ["one", "other"] Zbi:=by
  refine h.has (fun f fd F => F.binds fun _ _ _ _ _ _ us hl => by obtain ⟨_,_,rfl⟩:=Zdu hl; exact rfl) fun f fd F => F.ok sc_divisor (fun vs H Q E h => ?_) (fun cdv A outer s H vs Q E hr h => ?_)
  · obtain ⟨a,b,rfl,_⟩:=h
    rfl
  obtain ⟨x,y,rfl,k⟩:=h
  have nd:=sc_divisor.nd
  refine ⟨_,(Zab (ZbC PassesOwn.never (Zai ZcC (pv 1) Zad (Zam _)) (Zab (Zaq (i:=2) nd rfl (Or.inl rfl) (Zap Za6 (pv 0) (pv 1)))
      (Zab (Zaq (i:=0) nd rfl (Or.inl rfl) (pv 1))
      (Zae (Zaq (i:=1) nd rfl (Or.inl rfl) (pv 2))))))
    (Zae (Zal (Zah ZeR (by rfl) T.abs boot_abs (Zaa (pv 0) Zac))))),?_⟩
  refine ⟨fun m σ H' => ∃ (a b:Int) (r:Option V),m = b.natAbs ∧ σ = [some (.int a),some (.int b),r] ∧ H' = H ∧ Int.gcd a b = Int.gcd x y,⟨_,x,y,none,rfl,rfl,rfl,rfl⟩,?_⟩
  rintro m σ H' ⟨a,b,r,rfl,rfl,rfl,g⟩
  refine ⟨_,rfl,rfl,_,rfl,?_⟩
  refine Zhe (fun hb => ⟨_,fun _ _ h => h,?_⟩) (fun hb => ?_)
  · refine ⟨_,rfl,_,rfl,_,_,rfl,rfl,hb,_,rfl,_,rfl,?_⟩
    exact ⟨_,M1.fmod_lt a hb,b,a.fmod b,_,rfl,rfl,rfl,by rw [M1.fmod_gcd]; exact g⟩
  · refine ⟨_,rfl,_,rfl,?_⟩
    subst hb
    rw [← M1.gcd_zero' a,g]
    exact k
end
section
variable {P:Program} {w:World} {K:PySem.W.Frag} {mg:Str → Option Value} {base:Heap}
theorem sc_l_divisor:FnScope ["_law_one", "_law_other"] ["_law_one", "_law_other"] (Zag ZbO):=⟨rfl,rfl,rfl,by decide +kernel,rfl,by decide +kernel,by decide +kernel⟩
theorem Zd8 (h:Here K mg "_law_divisor" ZbO) (T:Nm mg):Has P w K mg base "_law_divisor" 1 ["_law_one", "_law_other"] Zbi:=by
  refine h.has (fun f fd F => F.binds fun _ _ _ _ _ _ us hl => by obtain ⟨_,_,rfl⟩:=Zdu hl; exact rfl) fun f fd F => F.ok sc_l_divisor (fun vs H Q E h => ?_) (fun cdv A outer s H vs Q E hr h => ?_)
  · obtain ⟨a,b,rfl,_⟩:=h
    rfl
  obtain ⟨x,y,rfl,k⟩:=h
  have nd:=sc_l_divisor.nd
  refine ⟨_,(Zab (ZbC PassesOwn.never (Zai ZcC (pv 1) Zad (Zam _)) (Zae (Zib (i:=0) (j:=1) rfl nd rfl rfl (by decide) rfl rfl (Zaa (pv 1) (Zaa (Zap Za6 (pv 0) (pv 1)) Zac)) rfl)))
    (Zae (Zal (Zah ZeR (by rfl) T.abs boot_abs (Zaa (pv 0) Zac))))),?_⟩
  refine ⟨fun m σ H' => ∃ (a b:Int),m = b.natAbs ∧ σ = [some (.int a),some (.int b)] ∧ H' = H ∧ Int.gcd a b = Int.gcd x y,⟨_,x,y,rfl,rfl,rfl,rfl⟩,?_⟩
  rintro m σ H' ⟨a,b,rfl,rfl,rfl,g⟩
  refine ⟨_,rfl,rfl,_,rfl,?_⟩
  refine Zhe (fun hb => ⟨_,fun _ _ h => h,?_⟩) (fun hb => ?_)
  · refine ⟨_,rfl,_,rfl,_,rfl,_,_,rfl,rfl,hb,_,_,rfl,?_⟩
    exact ⟨_,M1.fmod_lt a hb,b,a.fmod b,rfl,rfl,rfl,by rw [M1.fmod_gcd]; exact g⟩
  · refine ⟨_,rfl,_,rfl,?_⟩
    subst hb
    rw [← M1.gcd_zero' a,g]
    exact k
end
def Zcx:Sp:=fun vs H Q _ => ∃ i:Int,vs = [.int i] ∧ Q (.bl true) H
section
variable {P:Program} {w:World} {K:PySem.W.Frag} {mg:Str → Option Value} {base:Heap}
theorem ZeD:FnScope ["thing"] ["thing"] (Zag Zbh):=⟨rfl,rfl,rfl,by decide +kernel,rfl,by decide +kernel,by decide +kernel⟩
theorem ZeE (h:Here K mg "is_whole" Zbh) (T:Nm mg):Has P w K mg base "is_whole" 1 ["thing"] Zcx:=by
  refine h.has (fun f fd F => F.binds fun _ _ _ _ _ _ us hl => by obtain ⟨_,rfl⟩:=ZfD hl; exact rfl) fun f fd F => F.ok ZeD (fun vs H Q E h => ?_) (fun cdv A outer s H vs Q E hr h => ?_)
  · obtain ⟨_,rfl,_⟩:=h
    rfl
  obtain ⟨i,rfl,k⟩:=h
  refine ⟨_,(Zae (Zal (ZbS (Zah Zbn (by rfl) T.isinstance boot_isinstance (Zaa (pv 0) (Zaa (Zb7 (by rfl) T.int boot_int) Zac))) (Zcg (ZfG (Zah Zbn (by rfl) T.isinstance boot_isinstance (Zaa (pv 0) (Zaa (Zb7 (by rfl) T.bool boot_bool) Zac)))))))),?_⟩
  refine ⟨_,rfl,_,_,_,_,rfl,.int i,ZaD K _,_,rfl,?_⟩
  refine Zb5 ?_
  exact ⟨_,rfl,_,_,_,_,rfl,.int i,Zbs K,_,rfl,k⟩
end
section
variable {P:Program} {w:World} {K:PySem.W.Frag} {mg:Str → Option Value} {base:Heap}
theorem Zfu:FnScope ["_law_found"] ["_law_found"] (Zag ZcN):=⟨rfl,rfl,rfl,by decide +kernel,rfl,by decide +kernel,by decide +kernel⟩
theorem Zfv (h:Here K mg "_law_whole" ZcN) (T:Nm mg):Has P w K mg base "_law_whole" 1 ["_law_found"] Zcx:=by
  refine h.has (fun f fd F => F.binds fun _ _ _ _ _ _ us hl => by obtain ⟨_,rfl⟩:=ZfD hl; exact rfl) fun f fd F => F.ok Zfu (fun vs H Q E h => ?_) (fun cdv A outer s H vs Q E hr h => ?_)
  · obtain ⟨_,rfl,_⟩:=h
    rfl
  obtain ⟨i,rfl,k⟩:=h
  refine ⟨_,(Zae (Zal (ZbS (Zah Zbn (by rfl) T.isinstance boot_isinstance (Zaa (pv 0) (Zaa (Zb7 (by rfl) T.int boot_int) Zac))) (Zcg (ZfG (Zah Zbn (by rfl) T.isinstance boot_isinstance (Zaa (pv 0) (Zaa (Zb7 (by rfl) T.bool boot_bool) Zac)))))))),?_⟩
  refine ⟨_,rfl,_,_,_,_,rfl,.int i,ZaD K _,_,rfl,?_⟩
  refine Zb5 ?_
  exact ⟨_,rfl,_,_,_,_,rfl,.int i,Zbs K,_,rfl,k⟩
end
def Zcy:Sp:=fun vs H Q _ => ∃ n:Int,vs = [.int n] ∧ n < 1000000 ∧ (M2.Prm n → Q (.bl true) H) ∧ (¬ M2.Prm n → Q (.bl false) H)
section
variable {P:Program} {w:World} {K:PySem.W.Frag} {mg:Str → Option Value} {base:Heap}
theorem sc_is_prime:FnScope ["number", "trial"] ["number"] (Zag Zcb):=⟨rfl,rfl,rfl,by decide +kernel,rfl,by decide +kernel,by decide +kernel⟩
theorem ZeF (h:Here K mg "is_prime" Zcb) (T:Nm mg):Has P w K mg base "is_prime" 1 ["number"] Zcy:=by
  refine h.has (fun f fd F => F.binds fun _ _ _ _ _ _ us hl => by obtain ⟨_,rfl⟩:=ZfD hl; exact rfl) fun f fd F => F.ok sc_is_prime (fun vs H Q E h => ?_) (fun cdv A outer s H vs Q E hr h => ?_)
  · obtain ⟨_,rfl,_⟩:=h
    rfl
  obtain ⟨n,rfl,hn,kt,kf⟩:=h
  have nd:=sc_is_prime.nd
  obtain ⟨tk,hPB⟩:=T.PB
  refine ⟨_,(Zab (Zau (ZbK (Zai ZcZ (pv 0) Zad (Zam _)) (Zbf (Zai Zi0 (pv 0) (ZaH (v:=.int 1000000) (by rfl) hPB ⟨tk,rfl⟩) (Zam _)))).pt (Zae (Zal Zcp)) Zaj)
    (Zab (Zau (Zai Za3 (Zap ZaK (pv 0) Zad) Zad (Zam _)) (Zae (Zal (Zbk Za3 (pv 0) Zad (Zam _)))) Zaj)
    (Zab (Zaq (i:=1) nd rfl (Or.inl rfl) Zad)
    (Zab (ZbC PassesOwn.never (Zai ZfO (Zap Zb6 (pv 1) (pv 1)) (pv 0) (Zam _)) (Zab (Zau (Zai Za3 (Zap Za6 (pv 0) (pv 1)) Zad (Zam _)) (Zae (Zal Zcp)) Zaj)
      (Zae (Zic (i:=1) nd rfl (Or.inl rfl) Zad Zid))))
    (Zae (Zal Zcp)))))),?_⟩
  refine ⟨_,rfl,_,_,rfl,rfl,_,rfl,?_⟩
  refine Zar (fun h => Zb5 (kf fun p => by have:=p.1; omega)) (fun h2 => ?_)
  refine ⟨_,rfl,_,_,rfl,rfl,_,rfl,?_⟩
  refine Zar (fun h => absurd h (by omega)) (fun _ => ?_)
  refine ⟨_,rfl,_,_,rfl,rfl,(by show (0:Int) < _; decide),rfl,_,rfl,?_⟩
  refine ZaS (fun e => ?_) (fun e => ?_)
  · refine ⟨_,rfl,rfl,?_⟩
    rw [ZhF]
    have iff:=M2.prm_even (n:=n) (by omega) e
    by_cases hp:n = 2
    · rw [decide_eq_true hp]; exact kt (iff.mpr hp)
    · rw [decide_eq_false hp]; exact kf fun z => hp (iff.mp z)
  refine ⟨fun m σ H' => ∃ t:Int,m = (n + 2 - t).toNat ∧ σ = [some (.int n),some (.int t)] ∧ H' = H ∧ 3 ≤ t ∧ t % 2 = 1 ∧ t ≤ n + 2 ∧ M2.No n t,⟨_,3,rfl,rfl,rfl,by omega,by omega,by omega,M2.No.odd e⟩,?_⟩
  rintro m σ H' ⟨t,rfl,rfl,rfl,h3,ho,hle,no⟩
  have tf:t.natAbs ≤ 10 ^ 150:=Nat.le_trans (show t.natAbs ≤ 1000002 by omega) (by decide)
  refine ⟨_,rfl,_,rfl,_,_,rfl,rfl,(Zf4 tf tf),_,rfl,_,_,rfl,rfl,_,rfl,?_⟩
  refine Zar (fun hl => ⟨_,fun _ _ h => h,?_⟩) (fun hl => ?_)
  · refine ⟨_,rfl,_,rfl,_,_,rfl,rfl,(show t ≠ 0 by omega),rfl,_,rfl,?_⟩
    have lt:=M2.le_of_sq (by omega) hl
    refine ZaS (fun z => kf (M2.found (by omega) hl ((M2.fmod_dvd (by omega)).mp z))) (fun z => ?_)
    refine ⟨_,rfl,_,_,rfl,rfl,?_⟩
    exact ⟨_,by omega,t + 2,rfl,rfl,rfl,by omega,by omega,by omega,no.next e ho fun d => z ((M2.fmod_dvd (by omega)).mpr d)⟩
  · exact kt (no.done (by omega) (by omega) hl)
end
section
variable {P:Program} {w:World} {K:PySem.W.Frag} {mg:Str → Option Value} {base:Heap}
theorem sc_l_is_prime:FnScope ["_law_number", "_law_by"] ["_law_number"] (Zag Zbw):=⟨rfl,rfl,rfl,by decide +kernel,rfl,by decide +kernel,by decide +kernel⟩
theorem ZdE (h:Here K mg "_law_is_prime" Zbw):Has P w K mg base "_law_is_prime" 1 ["_law_number"] Zcy:=by
  refine h.has (fun f fd F => F.binds fun _ _ _ _ _ _ us hl => by obtain ⟨_,rfl⟩:=ZfD hl; exact rfl) fun f fd F => F.ok sc_l_is_prime (fun vs H Q E h => ?_) (fun cdv A outer s H vs Q E hr h => ?_)
  · obtain ⟨_,rfl,_⟩:=h
    rfl
  obtain ⟨n,rfl,hn,kt,kf⟩:=h
  have nd:=sc_l_is_prime.nd
  refine ⟨_,(Zab (Zaq (i:=1) nd rfl (Or.inl rfl) Zad)
    (Zab (ZbC PassesOwn.never (Zai ZfO (Zap Zb6 (pv 1) (pv 1)) (pv 0) (Zam _)) (Zab (Zau (Zai Za3 (Zap Za6 (pv 0) (pv 1)) Zad (Zam _)) (Zae (Zal Zcp)) Zaj)
      (Zae (Zaq (i:=1) nd rfl (Or.inl rfl) (Zap ZaR (pv 1) Zad)))))
    (Zae (Zal (Zbk ZbL (pv 0) Zad (Zam _)))))),?_⟩
  refine ⟨fun m σ H' => ∃ t:Int,m = (n + 2 - t).toNat ∧ σ = [some (.int n),some (.int t)] ∧ H' = H ∧ 2 ≤ t ∧ (t ≤ 2 ∨ t ≤ n) ∧ M2.No n t,⟨_,2,rfl,rfl,rfl,by omega,by omega,M2.No.two⟩,?_⟩
  rintro m σ H' ⟨t,rfl,rfl,rfl,h3,hle,no⟩
  have tf:t.natAbs ≤ 10 ^ 150:=Nat.le_trans (show t.natAbs ≤ 1000002 by omega) (by decide)
  refine ⟨_,rfl,_,rfl,_,_,rfl,rfl,(Zf4 tf tf),_,rfl,_,_,rfl,rfl,_,rfl,?_⟩
  refine Zar (fun hl => ⟨_,fun _ _ h => h,?_⟩) (fun hl => ?_)
  · refine ⟨_,rfl,_,rfl,_,_,rfl,rfl,(show t ≠ 0 by omega),rfl,_,rfl,?_⟩
    have lt:=M2.le_of_sq (by omega) hl
    refine ZaS (fun z => kf (M2.found (by omega) hl ((M2.fmod_dvd (by omega)).mp z))) (fun z => ?_)
    refine ⟨_,rfl,_,_,rfl,rfl,?_⟩
    exact ⟨_,by omega,t + 1,rfl,rfl,rfl,by omega,by omega,no.one fun d => z ((M2.fmod_dvd (by omega)).mpr d)⟩
  · refine ⟨_,rfl,_,_,rfl,rfl,?_⟩
    show Q (V.bl (decide (1 < n))) _
    by_cases h2:1 < n
    · rw [decide_eq_true h2]; exact kt (no.done (by omega) (by omega) hl)
    · rw [decide_eq_false h2]; exact kf fun p => by have:=p.1; omega
end
def ReA (CR:Addr) (p:Int) (H:Hp) (a:Addr):Prop:=∃ dx,H a = some (.ins CR dx (fsR p))
def Zfa (CR:Addr):Sp:=fun vs H Q _ => ∃ (x dx:Addr) (p:Int),vs = [.ref x,.int p] ∧ H x = some (.ins CR dx []) ∧ M2.Prm p ∧ p < 1000000 ∧ Q .non (upd H x (.ins CR dx (fsR p)))
section
variable {P:Program} {w:World} {K:PySem.W.Frag} {mg:Str → Option Value} {base:Heap}
theorem Zce:FnScope ["self", "prime"] ["self", "prime"] (Zag Za1):=⟨rfl,rfl,rfl,by decide +kernel,rfl,by decide +kernel,by decide +kernel⟩
theorem Zg3 {CR:Addr} (h:HereI K CR "Rests.__init__" Za1) (cl:Cls K CR) (nP:NoAttr K CR "prime") (h_is_whole:Has P w K mg base "is_whole" 1 ["thing"] Zcx) (h_is_prime:Has P w K mg base "is_prime" 1 ["number"] Zcy):HasI P w K mg base CR 2 ["self", "prime"] (Zfa CR):=by
  refine h.hasI (fun f fd F => F.binds fun _ _ _ _ _ _ us hl => by obtain ⟨_,_,rfl⟩:=Zdu hl; exact rfl) fun f fd F => F.ok Zce (fun vs H Q E h => ?_) (fun cdv A outer s H vs Q E hr h => ?_)
  · obtain ⟨_,_,_,rfl,_⟩:=h
    rfl
  obtain ⟨x,dx,p,rfl,hx,hp,lp,k⟩:=h
  refine ⟨_,(Zab (Zau (ZbK (ZaQ (ZaN (Zay h_is_whole hr (by rfl) (Zaa (pv 1) Zac)))) (Zbf (ZaQ (ZaN (Zay h_is_prime hr (by rfl) (Zaa (pv 1) Zac)))))).pt (Zae ZgE) Zaj)
    (Zae (Zik (pv 0) (pv 1) rfl))),?_⟩
  refine ⟨_,rfl,p,rfl,_,rfl,?_⟩
  refine Zcj ?_
  refine ⟨_,rfl,p,rfl,lp,fun _ => ⟨_,rfl,?_⟩,fun z => absurd hp z⟩
  refine Zcj ?_
  exact ⟨_,rfl,_,rfl,x,CR,dx,_,rfl,hx,cl,nP,(by show 0 < 1000; decide),k⟩
end
structure CN (K:PySem.W.Frag) (mg:Str → Option Value) (x:Str) (C:Addr):Prop where
  m:mg x = some (.ref C)
  c:PySem.W.isClsIn K C = true
  t:PySem.W.typeIn K (.ref C) = some (.type "type")
structure Rf (K:PySem.W.Frag) (mg:Str → Option Value) (CE cK cN cF cT cI cX cM cR:Addr):Prop where
  e:CN K mg "FrameError" CE
  eb:PySem.W.mroIn K CE (.type "BaseException") = some true
  k:CN K mg "NoKind" cK
  n:CN K mg "NoNumber" cN
  f:CN K mg "NoFit" cF
  t:CN K mg "NoTurn" cT
  i:CN K mg "NoInverse" cI
  x:CN K mg "NoText" cX
  m:CN K mg "NoName" cM
  r:CN K mg "NoRow" cR
  ve:mg "ValueError" = none
theorem Rf.cat {K:PySem.W.Frag} {mg:Str → Option Value} {CE cK cN cF cT cI cX cM cR:Addr} (R:Rf K mg CE cK cN cF cT cI cX cM cR):CatC K mg "FrameError" CE:=⟨R.e.m,R.e.t,R.eb,R.e.c⟩
def Zg4 (K:PySem.W.Frag) (C:Addr):List Addr → Prop
  | [] => True
  | D :: r => (PySem.W.mroIn K C (.ref D) = some false ∧ C ≠ D) ∧ Zg4 K C r
structure Rz (K:PySem.W.Frag) (mg:Str → Option Value) (x:Str) (CE C:Addr) (os:List Addr):Prop where
  c:ExcC K mg x C
  e:PySem.W.mroIn K C (.ref CE) = some true
  v:PySem.W.mroIn K C (.type "ValueError") = some true
  o:Zg4 K C os
theorem CN.no {K:PySem.W.Frag} {mg:Str → Option Value} {x:Str} {C D:Addr} (n:CN K mg x D) (h:PySem.W.mroIn K C (.ref D) = some false ∧ C ≠ D):PySem.W.kitOne K (.ref C) (.ref D) = some false:=ZhO n.c n.t h.1 h.2
def Zji (m:Nat) (g:Nat → V):List V:=(List.range m).map g
def Rows (H:Hp) (rs:List Addr) (m:Nat) (g:Nat → Nat → V):Prop:=∀ (i:Nat) (r:Addr),rs[i]? = some r → H r = some (.lst (Zji m (g i)))
structure Tb (H:Hp) (t:Addr) (rs:List Addr) (m:Nat) (g:Nat → Nat → V):Prop where
  l:H t = some (.lst (rs.map V.ref))
  r:Rows H rs m g
structure New (H:Hp) (rs:List Addr):Prop where
  nd:rs.Nodup
  no:∀ r ∈ rs,H r = none
theorem New.nil {H:Hp}:New H []:=⟨List.nodup_nil,fun _ h => nomatch h⟩
theorem New.snoc {H:Hp} {rs:List Addr} {r:Addr} (h:New H rs) (n:H r = none) (hr:r ∉ rs):New H (rs ++ [r]) :=
  ⟨by rw [List.nodup_append]; exact ⟨h.nd,by simp,fun a ha b hb => by rw [List.mem_singleton] at hb; subst hb; exact fun z => hr (z ▸ ha)⟩,fun x hx => by
    rcases List.mem_append.mp hx with hx | hx
    · exact h.no x hx
    · rw [List.mem_singleton.mp hx]; exact n⟩
theorem Rows.same {H H':Hp} {rs:List Addr} {m:Nat} {g:Nat → Nat → V} (h:Rows H rs m g) (S:Same H H'):Rows H' rs m g:=fun i r e => S _ _ (h i r e)
theorem Tb.same {H H':Hp} {t:Addr} {rs:List Addr} {m:Nat} {g:Nat → Nat → V} (h:Tb H t rs m g) (S:Same H H'):Tb H' t rs m g:=⟨S _ _ h.l,h.r.same S⟩
theorem Rows.snoc {H:Hp} {rs:List Addr} {r:Addr} {m:Nat} {g:Nat → Nat → V} (h:Rows H rs m g) (e:H r = some (.lst (Zji m (g rs.length)))):Rows H (rs ++ [r]) m g:=fun i x hx => by
  rw [List.getElem?_append] at hx
  split at hx
  · exact h i x hx
  · rename_i hi
    have:i - rs.length = 0:=by
      cases q:i - rs.length with
      | zero => rfl
      | succ n => rw [q] at hx; simp at hx
    have hi2:i = rs.length:=by omega
    subst hi2
    simp at hx
    subst hx
    exact e
theorem row0 {rs:List Addr} (h:1 ≤ rs.length):∃ r,rs[0]? = some r:=⟨rs[0],by simp [show 0 < rs.length by omega]⟩
theorem New.out {H:Hp} {rs:List Addr} {a:Addr} {o:HO} (h:New H rs) (q:H a = some o):a ∉ rs:=fun m => by rw [h.no a m] at q; cases q
def KdA (CF CR:Addr) (p:Int) (H:Hp) (k:Addr):Prop:=(p = 0 ∧ FrA CF H k) ∨ (M2.Prm p ∧ p < 1000000 ∧ ReA CR p H k)
theorem KdA.same {CF CR:Addr} {p:Int} {H H':Hp} {k:Addr} (h:KdA CF CR p H k) (S:Same H H'):KdA CF CR p H' k:=by
  rcases h with ⟨e,dx,h⟩ | ⟨e,l,dx,h⟩
  · exact .inl ⟨e,dx,S _ _ h⟩
  · exact .inr ⟨e,l,dx,S _ _ h⟩
def Ez (H:Hp) (p e:Int) (v:V):Prop:=(p = 0 ∧ ∃ t,v = .ref t ∧ H t = some (.tup [.int e,.int 1])) ∨ (0 < p ∧ v = .int e)
theorem Ez.same {H H':Hp} {p e:Int} {v:V} (h:Ez H p e v) (S:Same H H'):Ez H' p e v:=by
  rcases h with ⟨z,t,rfl,h⟩ | h
  · exact .inl ⟨z,t,rfl,S _ _ h⟩
  · exact .inr h
theorem Zd9 {ns:List Int} {i:Nat} (h:i < ns.length):atI (ns.map V.int) (i:Int) = some (.int ns[i]):=ZaA (by rw [List.getElem?_map,List.getElem?_eq_getElem h] <;> rfl)
def PK (p:Int):Prop:=p = 0 ∨ (M2.Prm p ∧ p < 1000000)
theorem PK.ge {p:Int} (h:PK p):0 ≤ p:=by
  rcases h with rfl | ⟨h,_⟩
  · exact Int.le_refl _
  · have:=h.1; omega
def Nu (H:Hp) (p:Int) (v:V):Prop:=(p = 0 ∧ ∃ t a b,v = .ref t ∧ H t = some (.tup [.int a,.int b]) ∧ Fc a b ∧ a.natAbs ≤ 10 ^ 60 ∧ b.natAbs ≤ 10 ^ 60) ∨ (0 < p ∧ ∃ x,v = .int x ∧ 0 ≤ x ∧ x < p)
theorem Nu.same {H H':Hp} {p:Int} {v:V} (h:Nu H p v) (S:Same H H'):Nu H' p v:=by
  rcases h with ⟨z,t,a,b,rfl,h,r⟩ | h
  · exact .inl ⟨z,t,a,b,rfl,S _ _ h,r⟩
  · exact .inr h
theorem Zi7 (c:Int):∃ m:Int,atI [V.int 11,V.int 11,V.int 999982] (c % 3) = some (.int m) ∧ 11 ≤ m ∧ m ≤ 999982:=by
  rcases (by omega:c % 3 = 0 ∨ c % 3 = 1 ∨ c % 3 = 2) with e | e | e <;> rw [e]
  · exact ⟨11,rfl,by decide,by decide⟩
  · exact ⟨11,rfl,by decide,by decide⟩
  · exact ⟨999982,rfl,by decide,by decide⟩
theorem Zi8 (c:Int):∃ m:Int,atI [V.int 1,V.int 6,V.int 60,V.int (10 ^ Int.toNat 60 - 1)] (c / 7 % 4) = some (.int m) ∧ 1 ≤ m ∧ m ≤ 10 ^ 60 - 1:=by
  rcases (by omega:c / 7 % 4 = 0 ∨ c / 7 % 4 = 1 ∨ c / 7 % 4 = 2 ∨ c / 7 % 4 = 3) with e | e | e | e <;> rw [e]
  · exact ⟨1,rfl,by decide,by decide⟩
  · exact ⟨6,rfl,by decide,by decide⟩
  · exact ⟨60,rfl,by decide,by decide⟩
  · exact ⟨10 ^ 60 - 1,rfl,by decide,by decide⟩
structure Ce (H:Hp) (c:Addr) (cs:List Int):Prop where
  l:H c = some (.lst (cs.map V.int))
  h1:1 ≤ cs.length
  h2:cs.length ≤ 66
  b:∀ i ∈ cs,Bits 1048576 i
theorem Ce.same {H H':Hp} {c:Addr} {cs:List Int} (h:Ce H c cs) (S:Same H H'):Ce H' c cs:=⟨S _ _ h.l,h.h1,h.h2,h.b⟩
def Off (D:List Addr) (H H':Hp):Prop:=∀ a o,a ∉ D → H a = some o → H' a = some o
theorem Off.same {D:List Addr} {H0 H H':Hp} (O:Off D H H') (S:Same H0 H) (n:∀ r ∈ D,H0 r = none):Same H0 H':=fun b o q => O b o (fun m => by rw [n b m] at q; cases q) (S _ _ q)
def NuEq (H:Hp) (p:Int) (x y:V):Prop:=(0 < p ∧ ∃ i,x = .int i ∧ y = .int i) ∨ (p = 0 ∧ ∃ s t a b,x = .ref s ∧ y = .ref t ∧ H s = some (.tup [.int a,.int b]) ∧ H t = some (.tup [.int a,.int b]))
theorem NuEq.same {H H':Hp} {p:Int} {x y:V} (h:NuEq H p x y) (S:Same H H'):NuEq H' p x y:=by
  rcases h with h | ⟨z,s,t,a,b,e1,e2,h1,h2⟩
  · exact .inl h
  · exact .inr ⟨z,s,t,a,b,e1,e2,S _ _ h1,S _ _ h2⟩
theorem Nu.eq {H:Hp} {p:Int} {x:V} (h:Nu H p x):NuEq H p x x:=by
  rcases h with ⟨z,t,a,b,e,h,_⟩ | ⟨z,i,e,_⟩
  · exact .inr ⟨z,t,t,a,b,e,e,h,h⟩
  · exact .inl ⟨z,i,e,e⟩
theorem Ez.eq {H:Hp} {p e:Int} {x y:V} (h:Ez H p e x) (h':Ez H p e y):NuEq H p x y:=by
  rcases h with ⟨z,t,e1,h1⟩ | ⟨z,e1⟩
  · rcases h' with ⟨_,t',e2,h2⟩ | ⟨z',_⟩
    · exact .inr ⟨z,t,t',_,_,e1,e2,h1,h2⟩
    · omega
  · rcases h' with ⟨z',_⟩ | ⟨_,e2⟩
    · omega
    · exact .inl ⟨z,_,e1,e2⟩
theorem Nu.kind {H:Hp} {p:Int} {x:V} (h:Nu H p x):(∃ i,x = .int i) ∨ ∃ a,x = .ref a:=by
  rcases h with ⟨_,t,_,_,e,_⟩ | ⟨_,i,e,_⟩
  · exact .inr ⟨t,e⟩
  · exact .inl ⟨i,e⟩
def Zea:Sp:=fun vs H Q _ => ∃ t b:Int,vs = [.int t,.int b] ∧ 0 < b ∧ b.natAbs ≤ 10 ^ 150 ∧ ∀ (r:Addr) (x y:Int),H r = none → Fc x y → x * b = t * y → x.natAbs ≤ t.natAbs → y.natAbs ≤ b.natAbs → Q (.ref r) (upd H r (.tup [.int x,.int y]))
section
variable {P:Program} {w:World} {K:PySem.W.Frag} {mg:Str → Option Value} {base:Heap}
theorem sc_l_lowest:FnScope ["_law_top", "_law_bottom", "_law_by"] ["_law_top", "_law_bottom"] (Zag Zcd):=⟨rfl,rfl,rfl,by decide +kernel,rfl,by decide +kernel,by decide +kernel⟩
theorem ZeG (h:Here K mg "_law_lowest" Zcd) (h_l_divisor:Has P w K mg base "_law_divisor" 1 ["_law_one", "_law_other"] Zbi):Has P w K mg base "_law_lowest" 2 ["_law_top", "_law_bottom"] Zea:=by
  refine h.has (fun f fd F => F.binds fun _ _ _ _ _ _ us hl => by obtain ⟨_,_,rfl⟩:=Zdu hl; exact rfl) fun f fd F => F.ok sc_l_lowest (fun vs H Q E h => ?_) (fun cdv A outer s H vs Q E hr h => ?_)
  · obtain ⟨_,_,rfl,_⟩:=h
    rfl
  obtain ⟨t,b,rfl,hb,fb,k⟩:=h
  have nd:=sc_l_lowest.nd
  refine ⟨_,(Zab (Zaq (i:=2) nd rfl (Or.inl rfl) (Zay h_l_divisor hr (by rfl) (Zaa (pv 0) (Zaa (pv 1) Zac))))
    (Zae (Zal (Zc9 (Zaa (Zap ZeU (pv 0) (pv 2)) (Zaa (Zap ZeU (pv 1) (pv 2)) Zac)))))),?_⟩
  refine ⟨_,rfl,_,rfl,t,b,rfl,?_⟩
  have hg:=M3.gcd_ne (a:=t) (b:=b) (by omega)
  have gl:Int.gcd t b ≤ b.natAbs:=Nat.le_of_dvd (by omega) (Int.natAbs_dvd_natAbs.mpr (Int.gcd_dvd_right t b))
  have hg1:(Int.gcd t b:Int) ≠ 0 ∧ ((Int.gcd t b:Int)).natAbs ≤ 10 ^ 150:=⟨by omega,by omega⟩
  obtain ⟨l1,l2,l3,l4,l5⟩:=M3.low (t:=t) hb
  refine ⟨_,rfl,_,rfl,_,_,rfl,rfl,hg1,_,rfl,_,rfl,_,_,rfl,rfl,hg1,(by show 2 ≤ sizeLine; decide),fun r hr' => ?_⟩
  exact k r _ _ hr' ⟨l2,l1⟩ l3 l4 l5
end
def ZcS:Sp:=fun vs H Q _ => ∃ c:Int,vs = [.int c] ∧ ∀ (H':Hp) (p:Int),Same H H' → PK p → Q (.int p) H'
section
variable {P:Program} {w:World} {K:PySem.W.Frag} {mg:Str → Option Value} {base:Heap}
theorem sc_l_prime:FnScope ["_law_cell_here", "_law_number"] ["_law_cell_here"] (Zag ZcO):=⟨rfl,rfl,rfl,by decide +kernel,rfl,by decide +kernel,by decide +kernel⟩
theorem ZeH (h:Here K mg "_law_prime" ZcO) (h_l_is_prime:Has P w K mg base "_law_is_prime" 1 ["_law_number"] Zcy):Has P w K mg base "_law_prime" 2 ["_law_cell_here"] ZcS:=by
  refine h.has (fun f fd F => F.binds fun _ _ _ _ _ _ us hl => by obtain ⟨_,rfl⟩:=ZfD hl; exact rfl) fun f fd F => F.ok sc_l_prime (fun vs H Q E h => ?_) (fun cdv A outer s H vs Q E hr h => ?_)
  · obtain ⟨_,rfl,_⟩:=h
    rfl
  obtain ⟨c,rfl,k⟩:=h
  have nd:=sc_l_prime.nd
  refine ⟨_,(Zab (Zau (Zai Za3 (Zap ZaK (pv 0) Zad) Zad (Zam _)) (Zae (Zal Zad)) Zaj)
    (Zab (Zaq (i:=1) nd rfl (Or.inl rfl) (Zap ZaR Zad (Zap Za6 (Zap Zdn (pv 0) Zad) (ZaI ZaB (Zch (Zaa Zad (Zaa Zad (Zaa Zad Zac)))) (Zap ZaK (pv 0) Zad) (fun _ _ => rfl)))))
    (Zab (ZbC PassesOwn.never (ZaQ (ZaN (Zay h_l_is_prime hr (by rfl) (Zaa (pv 1) Zac)))) (Zae (Zaq (i:=1) nd rfl (Or.inl rfl) (Zap ZaR (pv 1) Zad))))
    (Zae (Zal (pv 1)))))),?_⟩
  refine ⟨_,rfl,_,_,rfl,rfl,(by show (0:Int) < _; decide),rfl,_,rfl,?_⟩
  refine ZaS (fun _ => k H 0 (Same.refl H) (.inl rfl)) (fun _ => ?_)
  obtain ⟨m,am,m1,m2⟩:=Zi7 c
  refine ⟨_,rfl,_,_,rfl,rfl,⟨by decide,by decide⟩,(by show 3 ≤ sizeLine; decide),fun q hq => ?_⟩
  refine ⟨_,rfl,_,_,rfl,rfl,(by show (0:Int) < _; decide),_,_,_,_,rfl,rfl,SqL.of Zaf,am,_,_,rfl,rfl,(show m ≠ 0 by omega),_,_,rfl,rfl,?_⟩
  have S:=Zak hq (.lst [.int 11,.int 11,.int 999982])
  generalize upd H q _ = H1 at *
  have fm:(c / 3).fmod m = c / 3 % m:=Int.fmod_eq_emod_of_nonneg _ (by omega)
  have f1:=Int.emod_nonneg (c / 3) (show m ≠ 0 by omega)
  have f2:=Int.emod_lt_of_pos (c / 3) (show 0 < m by omega)
  refine ⟨fun mm σ H' => ∃ t:Int,mm = (999983 - t).toNat ∧ σ = [some (.int c),some (.int t)] ∧ H' = H1 ∧ 2 ≤ t ∧ t ≤ 999983,⟨_,2 + (c / 3).fmod m,rfl,rfl,rfl,by omega,by omega⟩,?_⟩
  rintro mm σ H' ⟨t,rfl,rfl,rfl,h2,ht⟩
  refine ⟨_,rfl,t,rfl,by omega,fun hp => ⟨_,rfl,?_⟩,fun hp => ⟨_,rfl,?_⟩⟩
  · refine Zcj ?_
    exact ⟨_,rfl,k _ t S (.inr ⟨hp,by omega⟩)⟩
  · refine Zb5 ?_
    refine ⟨_,fun _ _ h => h,?_⟩
    have hne:t ≠ 999983:=fun z => hp (by rw [z]; exact M2.prm_big)
    refine ⟨_,rfl,_,_,rfl,rfl,?_⟩
    exact ⟨_,by omega,t + 1,rfl,rfl,rfl,by omega,by omega⟩
end
def Zeb (CF CR:Addr):Sp:=fun vs H Q _ => ∃ p:Int,vs = [.int p] ∧ PK p ∧ ∀ (H':Hp) (k:Addr),Same H H' → KdA CF CR p H' k → Q (.ref k) H'
section
variable {P:Program} {w:World} {K:PySem.W.Frag} {mg:Str → Option Value} {base:Heap} {CF CR cN:Addr}
theorem Zgn:FnScope ["_law_prime_here"] ["_law_prime_here"] (Zag Zdz):=⟨rfl,rfl,rfl,by decide +kernel,rfl,by decide +kernel,by decide +kernel⟩
theorem Zgo (h:Here K mg "_law_kind" Zdz) (kd:Kd K mg CF CR) (hI:HasI P w K mg base CR 2 ["self", "prime"] (Zfa CR)):Has P w K mg base "_law_kind" 4 ["_law_prime_here"] (Zeb CF CR):=by
  refine h.has (fun f fd F => F.binds fun _ _ _ _ _ _ us hl => by obtain ⟨_,rfl⟩:=ZfD hl; exact rfl) fun f fd F => F.ok Zgn (fun vs H Q E h => ?_) (fun cdv A outer s H vs Q E hr h => ?_)
  · obtain ⟨_,rfl,_⟩:=h
    rfl
  obtain ⟨p,rfl,hp,k⟩:=h
  refine ⟨_,(Zab (Zau (Zai Za3 (pv 0) Zad (Zam _)) (Zae (Zal (Zf7 kd.mkF (by rfl) kd.mgF))) Zaj)
    (Zae (Zal (ZgP hI hr (by rfl) kd.mgR (Zaa (pv 0) Zac))))),?_⟩
  refine ⟨_,rfl,rfl,_,rfl,?_⟩
  refine ZaS (fun z => ?_) (fun z => ?_)
  · intro f0 df0 nf0 ndf0 nef0
    refine k _ f0 (fun b o e => ?_) (.inl ⟨z,df0,Zaf⟩)
    rw [Zan (Zaz e nf0),Zan (Zaz e ndf0)]; exact e
  · rcases hp with rfl | ⟨pr1,lp1⟩
    · exact absurd rfl z
    refine ⟨_,rfl,fun x1 dx1 nx1 ndx1 nex1 => ⟨x1,dx1,p,rfl,Zaf,pr1,lp1,rfl,?_⟩⟩
    refine k _ x1 (fun b o e => ?_) (.inr ⟨pr1,lp1,dx1,Zaf⟩)
    rw [Zan (Zaz e nx1),Zan (Zaz e nx1),Zan (Zaz e ndx1)]; exact e
end
def Zec:Sp:=fun vs H Q _ => ∃ (c:Addr) (cs:List Int) (k:Nat),vs = [.ref c,.int (k:Int)] ∧ Ce H c cs ∧ k < 256 ∧ ∀ x,Bits 1048593 x → Q (.int x) H
section
variable {P:Program} {w:World} {K:PySem.W.Frag} {mg:Str → Option Value} {base:Heap}
theorem Zgp:FnScope ["_law_cells", "_law_k"] ["_law_cells", "_law_k"] (Zag ZdA):=⟨rfl,rfl,rfl,by decide +kernel,rfl,by decide +kernel,by decide +kernel⟩
theorem Zgq (h:Here K mg "_law_cell" ZdA) (T:Nm mg):Has P w K mg base "_law_cell" 1 ["_law_cells", "_law_k"] Zec:=by
  refine h.has (fun f fd F => F.binds fun _ _ _ _ _ _ us hl => by obtain ⟨_,_,rfl⟩:=Zdu hl; exact rfl) fun f fd F => F.ok Zgp (fun vs H Q E h => ?_) (fun cdv A outer s H vs Q E hr h => ?_)
  · obtain ⟨_,_,_,rfl,_⟩:=h
    rfl
  obtain ⟨c,cs,kk,rfl,ce,hk,k⟩:=h
  refine ⟨_,(Zab (Zau (Zai ZcZ (pv 1) (Zah Zao (by rfl) T.len boot_len (Zaa (pv 0) Zac)) (Zam _)) (Zae (Zal (ZaI ZaB (pv 0) (pv 1) (fun _ _ => rfl)))) Zaj)
    (Zae (Zal (Zap ZaR (Zap Zb6 (ZaI ZaB (pv 0) (Zap Za6 (pv 1) (Zah Zao (by rfl) T.len boot_len (Zaa (pv 0) Zac))) (fun _ _ => rfl)) (Zap ZaR (pv 1) Zad)) (Zap Zb6 (pv 1) (pv 1)))))),?_⟩
  have h1:=ce.h1
  have h2:=ce.h2
  refine ⟨_,rfl,_,rfl,c,_,rfl,.inl (SqL.of ce.l),_,_,rfl,rfl,_,rfl,?_⟩
  rw [List.length_map]
  refine Zar (fun z => ?_) (fun z => ?_)
  · have lk:kk < cs.length:=by omega
    refine ⟨_,rfl,_,rfl,c,_,_,_,rfl,rfl,SqL.of ce.l,Zd9 lk,?_⟩
    exact k _ (Bits.mono (ce.b _ (List.getElem_mem lk)) (by decide))
  · have len0:(cs.length:Int) ≠ 0:=by omega
    have fm:((kk:Nat):Int).fmod (cs.length:Int) = ((kk % cs.length:Nat):Int):=by rw [Int.fmod_eq_emod_of_nonneg _ (by omega)]; rfl
    have lj:kk % cs.length < cs.length:=Nat.mod_lt _ (by omega)
    refine ⟨_,rfl,_,rfl,_,rfl,c,_,rfl,.inl (SqL.of ce.l),_,_,rfl,rfl,(by rw [List.length_map]; exact len0),c,_,_,_,rfl,rfl,SqL.of ce.l,(by rw [List.length_map,fm]; exact Zd9 lj),_,rfl,_,_,rfl,rfl,_,_,rfl,rfl,.of_right (intBits_le_64 (by omega) (by omega)),_,rfl,_,rfl,_,_,rfl,rfl,.of_right (intBits_le_64 (by omega) (by omega)),_,_,rfl,rfl,?_⟩
    exact k _ (Bits.cell (ce.b _ (List.getElem_mem lj)) (by omega) (by omega))
end
def Zdj:Sp:=fun vs H Q _ => ∃ p c:Int,vs = [.int p,.int c] ∧ PK p ∧ Bits 2097152 c ∧ ∀ (H':Hp) (v:V),Same H H' → Nu H' p v → Q v H'
section
variable {P:Program} {w:World} {K:PySem.W.Frag} {mg:Str → Option Value} {base:Heap}
theorem sc_l_drawn:FnScope ["_law_prime_here", "_law_cell_here", "_law_top"] ["_law_prime_here", "_law_cell_here"] (Zag ZcP):=⟨rfl,rfl,rfl,by decide +kernel,rfl,by decide +kernel,by decide +kernel⟩
theorem Zfw (h:Here K mg "_law_drawn" ZcP) (h_l_lowest:Has P w K mg base "_law_lowest" 2 ["_law_top", "_law_bottom"] Zea):Has P w K mg base "_law_drawn" 3 ["_law_prime_here", "_law_cell_here"] Zdj:=by
  refine h.has (fun f fd F => F.binds fun _ _ _ _ _ _ us hl => by obtain ⟨_,_,rfl⟩:=Zdu hl; exact rfl) fun f fd F => F.ok sc_l_drawn (fun vs H Q E h => ?_) (fun cdv A outer s H vs Q E hr h => ?_)
  · obtain ⟨_,_,rfl,_⟩:=h
    rfl
  obtain ⟨p,c,rfl,hp,hb,k⟩:=h
  have nd:=sc_l_drawn.nd
  refine ⟨_,(Zab (Zau (Zai ZbL (pv 0) Zad (Zam _)) (Zae (Zal (Zap Za6 (pv 1) (pv 0)))) Zaj)
    (Zab (Zaq (i:=2) nd rfl (Or.inl rfl) (Zap ZcB (Zap ZaK (Zap Zdn (pv 1) Zad) Zad) Zad))
    (Zab (Zau (Zai Za3 (Zap ZaK (pv 1) Zad) Zad (Zam _)) (Zae (Zaq (i:=2) nd rfl (Or.inl rfl) (Zap ZcB (Zap ZaK (Zap ZcB (Zap ZaR (Zap Zdn (pv 1) Zad) (Zap ZeQ Zad Zad)) Zad) (Zap ZcB (Zap Zbr Zad (Zap ZeQ Zad Zad)) Zad)) (Zap ZcB (Zap ZeQ Zad Zad) Zad)))) Zaj)
    (Zae (Zal (Zay h_l_lowest hr (by rfl) (Zaa (pv 2) (Zaa (Zap ZaR Zad (Zap Za6 (Zap Zbr (Zap Zb6 (pv 1) (pv 1)) Zad) (ZaI ZaB (Zch (Zaa Zad (Zaa Zad (Zaa Zad (Zaa (Zap ZcB (Zap ZeQ Zad Zad) Zad) Zac))))) (Zap ZaK (Zap Zdn (pv 1) Zad) Zad) (fun _ _ => rfl)))) Zac)))))))),?_⟩
  refine ⟨_,rfl,_,_,rfl,rfl,_,rfl,?_⟩
  have hp0:=hp.ge
  refine Zar (fun z => ?_) (fun z => ?_)
  · have z':0 < p:=z
    refine ⟨_,rfl,_,rfl,_,_,rfl,rfl,(show p ≠ 0 by omega),?_⟩
    refine k H _ (Same.refl H) (.inr ⟨z',_,rfl,?_⟩)
    rw [Int.fmod_eq_emod_of_nonneg _ (by omega)]
    exact ⟨Int.emod_nonneg _ (by omega),Int.emod_lt_of_pos _ z'⟩
  have z':¬ 0 < p:=z
  have p0:p = 0:=by omega
  subst p0
  refine ⟨_,rfl,_,_,rfl,rfl,⟨by decide,by decide⟩,_,_,rfl,rfl,(by show (0:Int) < _; decide),_,_,rfl,rfl,?_⟩
  refine ⟨_,rfl,_,_,rfl,rfl,(by show (0:Int) < _; decide),rfl,_,rfl,?_⟩
  obtain ⟨m,am,m1,m2⟩:=Zi8 c
  have tail:∀ t:Int,t.natAbs ≤ 10 ^ 60 → ∀ (r:Addr) (H1:Hp),Same H H1 → ∀ e,e = c * c * 48271 → ∀ (r':Addr) (x y:Int),H1 r' = none → Fc x y → x.natAbs ≤ t.natAbs → y.natAbs ≤ (1 + e.fmod m).natAbs → Q (.ref r') (upd H1 r' (.tup [.int x,.int y])):=by
    intro t ht _ H1 S e _ r' x y nr fc l1 l2
    have f1:=Int.emod_nonneg e (show m ≠ 0 by omega)
    have f2:=Int.emod_lt_of_pos e (show 0 < m by omega)
    rw [Int.fmod_eq_emod_of_nonneg _ (by omega)] at l2
    exact k _ _ (S.trans (Zak nr _)) (.inl ⟨rfl,r',x,y,rfl,Zaf,fc,by omega,by omega⟩)
  have bb:∀ e:Int,0 < 1 + e.fmod m ∧ (1 + e.fmod m).natAbs ≤ 10 ^ 150:=by
    intro e
    rw [Int.fmod_eq_emod_of_nonneg _ (by omega)]
    have f1:=Int.emod_nonneg e (show m ≠ 0 by omega)
    have f2:=Int.emod_lt_of_pos e (show 0 < m by omega)
    have:(10:Nat) ^ 60 ≤ 10 ^ 150:=by decide
    omega
  refine ZaS (fun _ => ?_) (fun _ => ?_)
  · refine ⟨_,rfl,_,_,rfl,rfl,⟨by decide,by decide⟩,_,_,rfl,rfl,⟨by decide,by decide,by decide⟩,_,_,rfl,rfl,_,_,rfl,rfl,_,_,rfl,rfl,⟨by decide,by decide,by decide⟩,_,_,rfl,rfl,.inl ⟨by decide,by decide⟩,_,_,rfl,rfl,_,_,rfl,rfl,(by show (0:Int) < _; decide),_,_,rfl,rfl,⟨by decide,by decide,by decide⟩,_,_,rfl,rfl,_,_,rfl,rfl,?_⟩
    refine ⟨_,rfl,_,rfl,_,rfl,_,_,rfl,rfl,hb.mul hb,_,_,rfl,rfl,.inr ⟨by decide,by decide⟩,_,_,rfl,rfl,⟨by decide,by decide,by decide⟩,_,_,rfl,rfl,(by show 4 ≤ sizeLine; decide),fun q hq => ?_⟩
    refine ⟨_,rfl,_,_,rfl,rfl,⟨by decide,by decide⟩,_,_,rfl,rfl,(by show (0:Int) < _; decide),_,_,_,_,rfl,rfl,SqL.of Zaf,am,_,_,rfl,rfl,(show m ≠ 0 by omega),_,_,rfl,rfl,_,_,rfl,(bb _).1,(bb _).2,fun r x y nr fc e l1 l2 => ?_⟩
    refine tail _ ?_ q _ (Zak hq _) _ rfl r x y nr fc l1 l2
    show ((c / 5 + 10 ^ 60 - 1) % (2 * 10 ^ 60 - 1) - (10 ^ 60 - 1):Int).natAbs ≤ 10 ^ 60
    omega
  · refine ⟨_,rfl,_,rfl,_,rfl,_,_,rfl,rfl,hb.mul hb,_,_,rfl,rfl,.inr ⟨by decide,by decide⟩,_,_,rfl,rfl,⟨by decide,by decide,by decide⟩,_,_,rfl,rfl,(by show 4 ≤ sizeLine; decide),fun q hq => ?_⟩
    refine ⟨_,rfl,_,_,rfl,rfl,⟨by decide,by decide⟩,_,_,rfl,rfl,(by show (0:Int) < _; decide),_,_,_,_,rfl,rfl,SqL.of Zaf,am,_,_,rfl,rfl,(show m ≠ 0 by omega),_,_,rfl,rfl,_,_,rfl,(bb _).1,(bb _).2,fun r x y nr fc e l1 l2 => ?_⟩
    refine tail _ ?_ q _ (Zak hq _) _ rfl r x y nr fc l1 l2
    show (c / 5 % 13 - 6:Int).natAbs ≤ 10 ^ 60
    omega
end
end My
namespace My
open PySem L2 PyProof.Rows
def Sm (x:V):Prop:=(∃ i:Int,x = .int i) ∨ (∃ b,x = .bl b) ∨ x = .non ∨ ∃ s,x = .str s
def Th (H:Hp) (v:V):Prop:=Sm v ∨ (∃ a xs,v = .ref a ∧ H a = some (.lst xs)) ∨ (∃ a,v = .ref a ∧ H a = some (.dK [])) ∨ (∃ a xs,v = .ref a ∧ H a = some (.tup xs) ∧ ∀ x ∈ xs,Sm x)
theorem Th.same {H H':Hp} {v:V} (h:Th H v) (S:Same H H'):Th H' v:=by
  rcases h with h | ⟨a,xs,e,h⟩ | ⟨a,e,h⟩ | ⟨a,xs,e,h,r⟩
  · exact .inl h
  · exact .inr (.inl ⟨a,xs,e,S _ _ h⟩)
  · exact .inr (.inr (.inl ⟨a,e,S _ _ h⟩))
  · exact .inr (.inr (.inr ⟨a,xs,e,S _ _ h,r⟩))
def isW:V → Bool
  | .int _ => true
  | _ => false
theorem Zbj (K:PySem.W.Frag) {t T:String} (h0:((Value.type t) == (Value.type T)) = false) (h1:PySem.W.kitMeta T = true) (h:(PySem.fastBuiltinMro t).map (·.contains (Value.type T)) = some false):PySem.W.kitOne K (.type t) (.type T) = some false:=Zdr K h0 h1 h
theorem Th.ty {K:PySem.W.Frag} {H:Hp} {v:V} (h:Th H v):∃ (T:String) (b1 b2 b3:Bool),TyX K H v (.type T) ∧ PySem.W.kitOne K (.type T) (.type "int") = some b1 ∧ PySem.W.kitOne K (.type T) (.type "bool") = some b2 ∧ PySem.W.kitOne K (.type T) (.type "tuple") = some b3 ∧ (b1 && !b2) = isW v ∧ (b3 = true → ∃ a xs,v = .ref a ∧ H a = some (.tup xs) ∧ ∀ x ∈ xs,Sm x) ∧ (b3 = false → ∀ a xs,v = .ref a → H a ≠ some (.tup xs)):=by
  rcases h with (⟨i,rfl⟩ | ⟨b,rfl⟩ | rfl | ⟨s,rfl⟩) | ⟨a,xs,rfl,h⟩ | ⟨a,rfl,h⟩ | ⟨a,xs,rfl,h,r⟩
  · exact ⟨"int", true,false,false,.of (.int i),ZaD K _,Zbs K,Zbj K (by decide +kernel) (by decide +kernel) (by decide +kernel),rfl,fun z => (nomatch z),fun _ a xs e => (nomatch e)⟩
  · exact ⟨"bool", true,true,false,.of (.bl b),ZdX K,ZaD K _,Zbj K (by decide +kernel) (by decide +kernel) (by decide +kernel),rfl,fun z => (nomatch z),fun _ a xs e => (nomatch e)⟩
  · exact ⟨"NoneType", false,false,false,.of .non,Zbj K (by decide +kernel) (by decide +kernel) (by decide +kernel),Zbj K (by decide +kernel) (by decide +kernel) (by decide +kernel),Zbj K (by decide +kernel) (by decide +kernel) (by decide +kernel),rfl,fun z => (nomatch z),fun _ a xs e => (nomatch e)⟩
  · exact ⟨"str", false,false,false,.of (.str s),Zbj K (by decide +kernel) (by decide +kernel) (by decide +kernel),Zbj K (by decide +kernel) (by decide +kernel) (by decide +kernel),Zbj K (by decide +kernel) (by decide +kernel) (by decide +kernel),rfl,fun z => (nomatch z),fun _ a xs e => (nomatch e)⟩
  · exact ⟨"list", false,false,false,.of (.lst h),Zbj K (by decide +kernel) (by decide +kernel) (by decide +kernel),Zbj K (by decide +kernel) (by decide +kernel) (by decide +kernel),Zbj K (by decide +kernel) (by decide +kernel) (by decide +kernel),rfl,fun z => (nomatch z),fun _ b ys e q => by cases e; rw [h] at q; cases q⟩
  · exact ⟨"dict", false,false,false,.of (.dK h),Zbj K (by decide +kernel) (by decide +kernel) (by decide +kernel),Zbj K (by decide +kernel) (by decide +kernel) (by decide +kernel),Zbj K (by decide +kernel) (by decide +kernel) (by decide +kernel),rfl,fun z => (nomatch z),fun _ b ys e q => by cases e; rw [h] at q; cases q⟩
  · exact ⟨"tuple", false,false,true,.of (.tup h),Zbj K (by decide +kernel) (by decide +kernel) (by decide +kernel),Zbj K (by decide +kernel) (by decide +kernel) (by decide +kernel),ZaD K _,rfl,fun _ => ⟨a,xs,rfl,h,r⟩,fun z => (nomatch z)⟩
def Zed:Sp:=fun vs H Q _ => ∃ v,vs = [v] ∧ Th H v ∧ Q (.bl (isW v)) H
def FrB (H:Hp) (v:V) (b:Bool):Prop:=(∃ t x y,v = .ref t ∧ H t = some (.tup [.int x,.int y]) ∧ b = (decide (1 ≤ y) && decide (Int.gcd x y = 1))) ∨ ((∀ t x y,v = .ref t → H t ≠ some (.tup [.int x,.int y])) ∧ b = false)
theorem FrB.det {H:Hp} {v:V} {b c:Bool} (h:FrB H v b) (h':FrB H v c):b = c:=by
  rcases h with ⟨t,x,y,rfl,q,rfl⟩ | ⟨n,rfl⟩
  · rcases h' with ⟨t',x',y',e,q',rfl⟩ | ⟨n,_⟩
    · cases e; rw [q] at q'; cases q'; rfl
    · exact absurd q (n t x y rfl)
  · rcases h' with ⟨t',x',y',e,q',rfl⟩ | ⟨_,rfl⟩
    · exact absurd q' (n t' x' y' e)
    · rfl
def RsB (p:Int) (v:V) (b:Bool):Prop:=(∃ i,v = .int i ∧ b = (decide (0 ≤ i) && decide (i < p))) ∨ (isW v = false ∧ b = false)
theorem RsB.det {p:Int} {v:V} {b c:Bool} (h:RsB p v b) (h':RsB p v c):b = c:=by
  rcases h with ⟨i,rfl,rfl⟩ | ⟨n,rfl⟩
  · rcases h' with ⟨j,e,rfl⟩ | ⟨n,_⟩
    · cases e; rfl
    · exact (nomatch n)
  · rcases h' with ⟨j,rfl,rfl⟩ | ⟨_,rfl⟩
    · exact (nomatch n)
    · rfl
theorem ZhW {v:V} (h:isW v = true):∃ i,v = .int i:=by
  cases v <;> first | exact ⟨_,rfl⟩ | exact (nomatch h)
section
variable {P:Program} {w:World} {K:PySem.W.Frag} {mg:Str → Option Value} {base:Heap} {CF CR cK:Addr}
theorem Zee:FnScope ["thing"] ["thing"] (Zag Zbh):=⟨rfl,rfl,rfl,by decide +kernel,rfl,by decide +kernel,by decide +kernel⟩
theorem Zef (h:Here K mg "is_whole" Zbh) (T:Nm mg):Has P w K mg base "is_whole" 1 ["thing"] Zed:=by
  refine h.has (fun f fd F => F.binds fun _ _ _ _ _ _ us hl => by obtain ⟨_,rfl⟩:=ZfD hl; exact rfl) fun f fd F => F.ok Zee (fun vs H Q E h => ?_) (fun cdv A outer s H vs Q E hr h => ?_)
  · obtain ⟨_,rfl,_⟩:=h
    rfl
  obtain ⟨v,rfl,th,k⟩:=h
  refine ⟨_,(Zae (Zal (ZbS (Zah Zat (by rfl) T.isinstance boot_isinstance (Zaa (pv 0) (Zaa (Zb7 (by rfl) T.int boot_int) Zac))) (Zcg (ZfG (Zah Zat (by rfl) T.isinstance boot_isinstance (Zaa (pv 0) (Zaa (Zb7 (by rfl) T.bool boot_bool) Zac)))))))),?_⟩
  obtain ⟨Ty,b1,b2,b3,ty,k1,k2,k3,e,_,_⟩:=th.ty (K:=K)
  refine ⟨_,rfl,_,_,_,_,rfl,ty,.ty k1,_,rfl,?_⟩
  rw [← e] at k
  cases b1 with
  | false => exact Zcj k
  | true => exact Zb5 ⟨_,rfl,_,_,_,_,rfl,ty,.ty k2,_,rfl,k⟩
end
end My
namespace My
open PySem L2 PyProof.Rows
def Zfb (X:Hp → Addr → Prop) (B:Hp → Addr → V → Bool → Prop):Sp:=fun vs H Q _ => ∃ (s:Addr) (v:V),vs = [.ref s,v] ∧ X H s ∧ Th H v ∧ ∀ b,B H s v b → Q (.bl b) H
section
variable {P:Program} {w:World} {K:PySem.W.Frag} {mg:Str → Option Value} {base:Heap} {CF CR CE cK cN cF cT cI cX cM cR:Addr}
theorem ZbY:FnScope ["self", "thing"] ["self", "thing"] (Zag ZaW):=⟨rfl,rfl,rfl,by decide +kernel,rfl,by decide +kernel,by decide +kernel⟩
theorem Zgr (h:HereM K CR "is_number" "Rests.is_number" ZaW) (cl:Cls K CR) (nP:NoAttr K CR "prime") (h_is_whole:Has P w K mg base "is_whole" 1 ["thing"] Zed):HasM P w K mg base CR "is_number" 2 ["self", "thing"] [] (Zfb (fun H s => ∃ p,ReA CR p H s) fun H s v b => ∀ p,ReA CR p H s → RsB p v b):=by
  refine h.hasM (fun f fd F => F.binds fun _ _ _ _ _ _ us hl => by obtain ⟨_,_,rfl⟩:=Zdu hl; exact rfl) fun f fd F => F.ok ZbY (fun vs H Q E h => ?_) (fun cdv A outer s H vs Q E hr h => ?_)
  · obtain ⟨_,_,rfl,_⟩:=h
    rfl
  obtain ⟨sr,v,rfl,⟨p,dx,hs⟩,th,k⟩:=h
  refine ⟨_,(Zae (Zal (ZbS (Zay h_is_whole hr (by rfl) (Zaa (pv 1) Zac)) (Zcg (ZgG ZfO ZcZ Zad (pv 1) (Zij (pv 0) rfl)))))),?_⟩
  have det:∀ p',ReA CR p' H sr → p' = p:=fun p' ⟨dx',h'⟩ => by
    rw [hs] at h'
    cases h'
    rfl
  refine ⟨_,rfl,v,rfl,th,_,rfl,?_⟩
  by_cases hw:isW v = true
  · obtain ⟨i,rfl⟩:=ZhW hw
    refine Zb5 ⟨_,rfl,_,_,rfl,rfl,_,rfl,?_⟩
    refine Zar (fun h0 => ?_) (fun h0 => ?_)
    · refine ⟨_,rfl,sr,CR,dx,_,_,rfl,hs,cl,nP,Zgm p,_,_,rfl,rfl,?_⟩
      refine k _ fun p' hp' => .inl ⟨i,rfl,?_⟩
      rw [det p' hp',decide_eq_true (show 0 ≤ i from h0),Bool.true_and]
    · refine k _ fun p' hp' => .inl ⟨i,rfl,?_⟩
      rw [decide_eq_false (show ¬ 0 ≤ i from h0),Bool.false_and]
  · have e:isW v = false:=by simpa using hw
    rw [e]
    exact Zcj (k _ fun p' _ => .inr ⟨e,rfl⟩)
end
end My
namespace My
open PySem L2 PyProof.Rows PySem.NumText
def ZgB:List Nat:=[48,49,50,51,52,53,54,55,56,57]
theorem Zfc:("0123456789" : Str).cps.toList = ZgB:=by decide +kernel
theorem mem_figs {c:Nat}:c ∈ ZgB ↔ 48 ≤ c ∧ c ≤ 57:=by
  unfold ZgB
  simp only [List.mem_cons,List.not_mem_nil,or_false]
  omega
structure Fg (l:List Nat):Prop where
  a:1 ≤ l.length
  b:l.length ≤ 60
  c:∀ c ∈ l,c ∈ ZgB
  d:l.head? = some 48 → l = [48]
noncomputable def fg (l:List Nat):Option Nat:=open Classical in if Fg l then some (digitsVal l) else none
theorem Zhj {l:List Nat} (h:Fg l):fg l = some (digitsVal l):=if_pos h
theorem ZhX {l:List Nat} (h:¬ Fg l):fg l = none:=if_neg h
theorem Zgs {z:Str} (h:Fg z.cps.toList):intText? z = some ((digitsVal z.cps.toList:Nat):Int):=by
  have hl:=len_list z
  refine intText_digits (fun c hc => mem_figs.mp (h.c c hc)) (fun e => ?_) (by have:=h.b; omega)
  have:=h.a
  rw [e] at this
  exact absurd this (by decide)
noncomputable def wh (l:List Nat):Option Int:=if l.head? = some 45 then (match fg (l.drop 1) with
  | some (n + 1) => some (-((n + 1:Nat):Int))
  | _ => none) else (match fg l with
  | some n => some (n:Int)
  | none => none)
noncomputable def fr2 (l:List (List Nat)):Option (Int × Int):=match l with
  | [a] => match wh a with
    | some t => some (t,1)
    | none => none
  | [a,b] => match wh a,fg b with
    | some t,some n => if n < 2 ∨ 1 < Int.gcd t n then none else some (t,(n:Int))
    | _,_ => none
  | _ => none
noncomputable def fr (l:List Nat):Option (Int × Int):=fr2 (spl 47 l)
def Rdn (p:Int) (l:List Nat) (H:Hp) (v:V):Prop:=(0 < p ∧ ∃ n:Nat,fg l = some n ∧ (n:Int) < p ∧ v = .int (n:Int)) ∨ (p = 0 ∧ ∃ (r:Addr) (t b:Int),fr l = some (t,b) ∧ v = .ref r ∧ H r = some (.tup [.int t,.int b]))
def Nor (p:Int) (l:List Nat):Prop:=(0 < p ∧ ∀ n:Nat,fg l = some n → ¬ (n:Int) < p) ∨ (p = 0 ∧ fr l = none)
theorem Nor.rdn {p:Int} {l:List Nat} {H:Hp} {v:V} (h:Nor p l) (h':Rdn p l H v):False:=by
  rcases h with ⟨p0,h⟩ | ⟨p0,h⟩
  · rcases h' with ⟨_,n,e,q,_⟩ | ⟨z,_⟩
    · exact h n e q
    · omega
  · rcases h' with ⟨z,_⟩ | ⟨_,r,t,b,e,_⟩
    · omega
    · rw [h] at e; cases e
theorem Rdn.eq {p:Int} {l:List Nat} {H:Hp} {v v':V} (h:Rdn p l H v) (h':Rdn p l H v'):NuEq H p v v':=by
  rcases h with ⟨p0,n,e,q,rfl⟩ | ⟨p0,r,t,b,e,rfl,q⟩
  · rcases h' with ⟨_,n',e',q',rfl⟩ | ⟨z,_⟩
    · rw [e] at e'; cases e'; exact .inl ⟨p0,_,rfl,rfl⟩
    · omega
  · rcases h' with ⟨z,_⟩ | ⟨_,r',t',b',e',rfl,q'⟩
    · omega
    · rw [e] at e'; cases e'; exact .inr ⟨p0,r,r',_,_,rfl,rfl,q,q'⟩
theorem Rdn.same {p:Int} {l:List Nat} {H H':Hp} {v:V} (h:Rdn p l H v) (S:Same H H'):Rdn p l H' v:=by
  rcases h with h | ⟨p0,r,t,b,e,ev,q⟩
  · exact .inl h
  · exact .inr ⟨p0,r,t,b,e,ev,S _ _ q⟩
def TxtV (K:PySem.W.Frag) (H:Hp) (v:V):Prop:=(∃ z:Str,v = .str z ∧ z.length ≤ 20000) ∨ ∃ T:String,TyX K H v (.type T) ∧ PySem.W.kitOne K (.type T) (.type "str") = some false
def Zg5 (cX:Addr):Sp:=fun vs H Q E => ∃ z:Str,vs = [.str z] ∧ z.length ≤ 20000 ∧ (fg z.cps.toList = none → ∀ H',Same H H' → E (.ref cX) none H') ∧ ∀ n:Nat,fg z.cps.toList = some n → ∀ H',Same H H' → Q (.int (n:Int)) H'
def ZiG (cX:Addr):Sp:=fun vs H Q E => ∃ z:Str,vs = [.str z] ∧ z.length ≤ 20000 ∧ (wh z.cps.toList = none → ∀ H',Same H H' → E (.ref cX) none H') ∧ ∀ n:Int,wh z.cps.toList = some n → ∀ H',Same H H' → Q (.int n) H'
def Zhk (cX:Addr):Sp:=fun vs H Q E => ∃ z:Str,vs = [.str z] ∧ z.length ≤ 20000 ∧ (fr z.cps.toList = none → ∀ H',Same H H' → E (.ref cX) none H') ∧ ∀ (t b:Int),fr z.cps.toList = some (t,b) → ∀ H' r,Same H H' → H' r = some (.tup [.int t,.int b]) → Q (.ref r) H'
def ZiH (CR cX:Addr):Sp:=fun vs H Q E => ∃ (k:Addr) (p:Int) (z:Str),vs = [.ref k,.str z] ∧ ReA CR p H k ∧ z.length ≤ 20000 ∧ ((∀ n:Nat,fg z.cps.toList = some n → ¬ (n:Int) < p) → ∀ H',Same H H' → E (.ref cX) none H') ∧ ∀ n:Nat,fg z.cps.toList = some n → (n:Int) < p → ∀ H',Same H H' → Q (.int (n:Int)) H'
def ZiI (K:PySem.W.Frag) (CF CR cX:Addr):Sp:=fun vs H Q E => ∃ (k:Addr) (p:Int) (v:V),vs = [.ref k,v] ∧ KdA CF CR p H k ∧ TxtV K H v ∧ ((∀ z,v = .str z → Nor p z.cps.toList) → ∀ H',Same H H' → E (.ref cX) none H') ∧ ∀ z,v = .str z → ∀ H' v',Same H H' → Rdn p z.cps.toList H' v' → Q v' H'
theorem ZhZ {C:(Bool → Hp → Prop) → Prop} {R:Bool → Hp → Prop} (b:Bool) (H:Hp) (h:∀ R,R b H → C R) (r:R b H):C R:=h R r
noncomputable def shN (a b:Int):Str:=if b = 1 then Str.ofString (toString a) else Str.ofString (toString a) ++ ⟨#[47]⟩ ++ Str.ofString (toString b)
def ShV (H:Hp) (p:Int) (v:V) (z:Str):Prop:=(0 < p ∧ ∃ i:Int,v = .int i ∧ z = Str.ofString (toString i)) ∨ (p = 0 ∧ ∃ t a b,v = .ref t ∧ H t = some (.tup [.int a,.int b]) ∧ z = shN a b)
end My
namespace My
open PySem L2 PyProof.Rows
structure TyI (K:PySem.W.Frag) (C:Addr):Prop where
  ha:PySem.W.findIn K (.ref C) "__class__" = some (some (.builtin "object.__class__"))
  hn:PySem.W.specialIn K (.builtin "object.__class__") "__get__" = some (some (.builtin "getset_descriptor.__get__"))
  htk:PySem.W.takesIn K (.builtin "object.__class__") = some true
  hm:PySem.W.mroIn K C (.type "object") = some true
structure Kc (K:PySem.W.Frag) (mg:Str → Option Value) (CF CR CB:Addr):Prop where
  b:CN K mg "Kind" CB
  f:CN K mg "Fractions" CF
  r:CN K mg "Rests" CR
  tF:TyI K CF
  tR:TyI K CR
  fb:PySem.W.mroIn K CF (.ref CB) = some true ∧ CF ≠ CB
  rb:PySem.W.mroIn K CR (.ref CB) = some true ∧ CR ≠ CB
  fr:PySem.W.mroIn K CF (.ref CR) = some false ∧ CF ≠ CR
  rf:PySem.W.mroIn K CR (.ref CF) = some false ∧ CR ≠ CF
theorem TyI.ty {K:PySem.W.Frag} {C a dx:Addr} {H:Hp} {fs:List (Str × V)} (t:TyI K C) (cl:Cls K C) (e:H a = some (.ins C dx fs)):TyX K H (.ref a) (.ref C):=.of (.ins e cl t.ha t.hn t.htk t.hm)
theorem Zhl {K:PySem.W.Frag} {mg:Str → Option Value} {CF CR CB:Addr} {p:Int} {H:Hp} {s:Addr} (kd:Kd K mg CF CR) (kc:Kc K mg CF CR CB) (hk:KdA CF CR p H s):∃ (C:Addr),TyX K H (.ref s) (.ref C) ∧ ((p = 0 ∧ FrA CF H s ∧ PySem.W.kitOne K (.ref C) (.ref CF) = some true) ∨ (0 < p ∧ ReA CR p H s ∧ PySem.W.kitOne K (.ref C) (.ref CF) = some false)):=by
  rcases hk with ⟨p0,dx,h⟩ | ⟨pr,_,dx,h⟩
  · exact ⟨CF,kc.tF.ty kd.clF h,.inl ⟨p0,⟨dx,h⟩,ZeZ⟩⟩
  · exact ⟨CR,kc.tR.ty kd.clR h,.inr ⟨by have:=pr.1; omega,⟨dx,h⟩,kc.f.no kc.rf⟩⟩
end My
namespace My
open PySem L2 PyProof.Rows
section
variable {P:Program} {w:World} {K:PySem.W.Frag} {mg:Str → Option Value} {base:Heap} {CF CR cX:Addr}
theorem Zeg:FnScope ["text"] ["text"] (Zag ZbM):=⟨rfl,rfl,rfl,by decide +kernel,rfl,by decide +kernel,by decide +kernel⟩
def Zby (K:PySem.W.Frag) (cX:Addr):Sp:=fun vs H Q E => ∃ v,vs = [v] ∧ TxtV K H v ∧ ((∀ z,v ≠ .str z) → E (.ref cX) none H) ∧ ((∃ z,v = .str z) → Q .non H)
theorem Zeh (h:Here K mg "need_text" ZbM) (T:Nm mg) (Ts:mg "str" = none) (c_NoText:ExcC K mg "NoText" cX):HasX P w K mg base "need_text" 1 ["text"] (Zby K cX):=by
  refine h.hasX (fun f fd F => F.binds fun _ _ _ _ _ _ us hl => by obtain ⟨_,rfl⟩:=ZfD hl; exact rfl) fun f fd F => F.okx Zeg (fun vs H Q E h => ?_) (fun cdv A outer s H vs Q E hr h => ?_)
  · obtain ⟨_,rfl,_⟩:=h
    rfl
  obtain ⟨v,rfl,tv,kE,k⟩:=h
  refine ⟨_,(Zae (Zau (ZaQ (ZaN (Zah Zat (by rfl) T.isinstance boot_isinstance (Zaa (pv 0) (Zaa (Zb7 (by rfl) Ts boot_str) Zac))))) (Zae (ZaX c_NoText ZbF rfl (by rfl) (Zaa Zax Zac))) Zaj)),?_⟩
  rcases tv with ⟨z,rfl,_⟩ | ⟨Ty,ty,kit⟩
  · exact ⟨_,rfl,_,_,_,_,rfl,.of (.str z),.ty (ZaD K _),_,rfl,Zcj (k ⟨z,rfl⟩)⟩
  · refine ⟨_,rfl,_,_,_,_,rfl,ty,.ty kit,_,rfl,Zb5 ⟨(by show 1 ≤ 1000; decide),kE fun z e => ?_⟩⟩
    subst e
    cases ty with
    | of ty =>
      cases ty with
      | str => rw [ZaD K _] at kit; cases kit
theorem ZcT:FnScope ["text"] ["text"] (Zag Zbe):=⟨rfl,rfl,rfl,by decide +kernel,rfl,by decide +kernel,by decide +kernel⟩
theorem ZcU (h:Here K mg "read_figures" Zbe) (T:Nm mg) (Ta:mg "all" = none) (Tf:∃ t,mg "FIGURES" = some (.str "0123456789" t)) (Tm:∃ t,mg "MOST_FIGURES" = some (.int 60 t)) (c_NoText:ExcC K mg "NoText" cX):HasX P w K mg base "read_figures" 1 ["text"] (Zg5 cX):=by
  refine h.hasX (fun f fd F => F.binds fun _ _ _ _ _ _ us hl => by obtain ⟨_,rfl⟩:=ZfD hl; exact rfl) fun f fd F => F.okx ZcT (fun vs H Q E h => ?_) (fun cdv A outer s H vs Q E hr h => ?_)
  · obtain ⟨_,rfl,_⟩:=h
    rfl
  obtain ⟨z,rfl,zl,kE,k⟩:=h
  obtain ⟨tf,Tf⟩:=Tf
  obtain ⟨tm,Tm⟩:=Tm
  refine ⟨_,(Zab (Zau (ZbK (ZaQ (ZgH ZfO ZfO Zad (Zah ZaZ (by rfl) T.len boot_len (Zaa (pv 0) Zac)) (ZaH (v:=.int 60) (by rfl) Tm ⟨_,rfl⟩))) (Zbf (ZaQ (ZaN (Zah (Ze0 rfl) (by rfl) Ta PyProof.Rows.Boot.all (Zaa (Zbc ["sign"] [] rfl (Zhh (pv 0)) (by exact fun _ _ _ _ => (Zaw (i:=0) (show (["sign"]:List Str).Nodup by decide +kernel) rfl (Or.inl rfl))) (by exact fun _ _ _ _ => (Zbk ZfP (pv 0) (ZaH (v:=.str "0123456789") (by rfl) Tf ⟨_,rfl⟩) (by rfl))) trivial) Zac)))))).pt (Zae (ZaX c_NoText ZbF rfl (by rfl) (Zaa Zax Zac))) Zaj)
    (Zab (Zau (Zc7 (Zai Za3 (ZaI ZfZ (pv 0) Zad (fun _ _ => rfl)) Zax (Zam _)) (Zb2 (Zai ZcC (pv 0) Zax (Zam _)))).pt (Zae (ZaX c_NoText ZbF rfl (by rfl) (Zaa Zax Zac))) Zaj)
    (Zae (Zal (ZaG ZbX (by rfl) T.int boot_int (Zaa (pv 0) Zac)))))),?_⟩
  have hl:=len_list z
  have s9:20000 ≤ sizeLine:=by decide
  refine ⟨_,rfl,z,rfl,by omega,_,_,rfl,rfl,_,rfl,?_⟩
  refine Zar (fun h1 => ?_) (fun h1 => ?_)
  case refine_2 =>
    refine ⟨_,rfl,Zb5 ⟨(by show 1 ≤ 1000; decide),kE (ZhX fun f => h1 ?_) H (Same.refl _)⟩⟩
    have:=f.a
    show (1:Int) ≤ (z.length:Int)
    omega
  refine ⟨_,_,rfl,rfl,_,rfl,?_⟩
  have no1:¬ Fg z.cps.toList → ∀ H',Same H H' → E (.ref cX) none H':=fun f => kE (ZhX f)
  refine ZaJ (fun h2 => Zb5 ⟨(by show 1 ≤ 1000; decide),no1 (fun f => h2 ?_) H (Same.refl _)⟩) (fun h2 => ?_)
  · have:=f.b
    show (z.length:Int) ≤ 60
    omega
  have h1:(1:Int) ≤ (z.length:Int):=h1
  have h2:(z.length:Int) ≤ 60:=h2
  refine ⟨_,rfl,z,rfl,?_⟩
  refine ZgZ (fun i ys H' => H' = H ∧ ys = ((z.cps.toList.take i).map fun c => decide (c ∈ ZgB)).map V.bl) (by omega) ⟨rfl,rfl⟩ ?_ ?_
  · rintro i c ys H' hc hy ⟨rfl,rfl⟩
    refine ⟨_,rfl,_,_,rfl,rfl,rfl,?_⟩
    rw [StrLaws.found_one,Zfc,List.take_add_one,List.map_append,List.map_append,show z.cps.toList[i]? = some c by simpa using hc]
    rfl
  rintro ys _ hy ⟨rfl,rfl⟩
  refine fun D nD => ⟨D,_,rfl,SqL.of Zaf,_,rfl,?_⟩
  have SD:=Zak nD (.lst (((z.cps.toList.take z.cps.size).map fun c => decide (c ∈ ZgB)).map V.bl))
  generalize upd _ D _ = H1 at *
  have ta:z.cps.toList.take z.cps.size = z.cps.toList:=List.take_of_length_le (by simp)
  rw [ta]
  have eb:((z.cps.toList.map fun c => decide (c ∈ ZgB)).all id = true) ↔ ∀ c ∈ z.cps.toList,c ∈ ZgB:=by
    rw [List.all_map,List.all_eq_true]
    exact ⟨fun h c hc => of_decide_eq_true (h c hc),fun h c hc => decide_eq_true (h c hc)⟩
  generalize hb:(z.cps.toList.map fun c => decide (c ∈ ZgB)).all id = b at *
  cases b with
  | false => exact Zb5 ⟨(by show 1 ≤ 1000; decide),no1 (fun f => by have:=eb.mpr f.c; cases this) H1 SD⟩
  | true =>
  have hc:=eb.mp rfl
  refine Zcj ?_
  obtain ⟨c0,r,e0⟩:∃ c0 r,z.cps.toList = c0 :: r:=by
    cases h:z.cps.toList with
    | nil => rw [h] at hl; have:z.length = 0:=hl; omega
    | cons a r => exact ⟨a,r,rfl⟩
  have fin:Fg z.cps.toList → Q (.int ((PySem.NumText.digitsVal z.cps.toList:Nat):Int)) H1:=fun f => k _ (Zhj f) H1 SD
  refine ⟨_,rfl,z,0,c0,rfl,rfl,by omega,(by rw [e0]; exact ZaA (j:=0) rfl),rfl,_,rfl,?_⟩
  have ez:∀ (c:Nat),(V.str ⟨#[c]⟩ = V.str "0") ↔ c = 48:=fun c => ⟨fun e => by
    have e:=V.str.inj e
    have:=congrArg (fun s:Str => s.cps.toList) e
    have e2:("0" : Str).cps.toList = [48]:=by decide +kernel
    rw [e2] at this
    simpa using this,fun e => by subst e; exact congrArg V.str (by decide +kernel)⟩
  have e0s:(V.str z = V.str "0") ↔ z.cps.toList = [48]:=⟨fun e => by
    rw [V.str.inj e]; decide +kernel,fun e => congrArg V.str (Str.of_list (by rw [e]; decide +kernel))⟩
  refine Zar (fun h3 => ?_) (fun h3 => ?_)
  · refine ⟨_,rfl,rfl,_,rfl,?_⟩
    refine ZaJ (fun h4 => ⟨(by show 1 ≤ 1000; decide),no1 (fun f => h4 (e0s.mpr (f.d ?_))) H1 SD⟩) (fun h4 => ?_)
    · rw [e0,(ez c0).mp h3]; rfl
    have f:Fg z.cps.toList:=⟨by omega,by omega,hc,fun _ => e0s.mp h4⟩
    exact ⟨_,rfl,z,_,rfl,by omega,Zgs f,fin f⟩
  · have f:Fg z.cps.toList:=⟨by omega,by omega,hc,fun h => absurd (ez c0 |>.mpr (by rw [e0] at h; simpa using h)) h3⟩
    exact Zcj ⟨_,rfl,z,_,rfl,by omega,Zgs f,fin f⟩
theorem sc_read_whole:FnScope ["text", "number"] ["text"] (Zag Zbu):=⟨rfl,rfl,rfl,by decide +kernel,rfl,by decide +kernel,by decide +kernel⟩
theorem Zfd:("-" : Str) = ⟨#[45]⟩:=by decide +kernel
theorem Zei:("/" : Str) = ⟨#[47]⟩:=by decide +kernel
theorem ZdF (h:Here K mg "read_whole" Zbu) (c_NoText:ExcC K mg "NoText" cX) (h_read_figures:HasX P w K mg base "read_figures" 1 ["text"] (Zg5 cX)):HasX P w K mg base "read_whole" 2 ["text"] (ZiG cX):=by
  refine h.hasX (fun f fd F => F.binds fun _ _ _ _ _ _ us hl => by obtain ⟨_,rfl⟩:=ZfD hl; exact rfl) fun f fd F => F.okx sc_read_whole (fun vs H Q E h => ?_) (fun cdv A outer s H vs Q E hr h => ?_)
  · obtain ⟨_,rfl,_⟩:=h
    rfl
  obtain ⟨z,rfl,zl,kE,k⟩:=h
  have nd:=sc_read_whole.nd
  refine ⟨_,(Zab (Zau (ZaQ (ZaN (ZbT PySem.F.plainAttrs_str PySem.F.slot_str_startswith PySem.F.type_str_startswith Zdw (pv 0) (Zaa Zax Zac)))) (Zae (Zal (Za0 h_read_figures Zdt hr (by rfl) (Zaa (pv 0) Zac)))) Zaj)
    (Zab (Zaq (i:=1) nd rfl (Or.inl rfl) (Za0 h_read_figures Zdt hr (by rfl) (Zaa (ZaO ZbW (pv 0) (Za8 Zad) Za7) Zac)))
    (Zab (Zau (Zai Za3 (pv 1) Zad (Zam _)) (Zae (ZaX c_NoText ZbF rfl (by rfl) (Zaa Zax Zac))) Zaj)
    (Zae (Zal (ZiZ Zig (pv 1))))))),?_⟩
  have hl:=len_list z
  have s9:20000 ≤ sizeLine:=by decide
  refine ⟨_,rfl,rfl,_,_,rfl,rfl,?_⟩
  rw [Zfd,Zfq]
  refine ⟨_,rfl,?_⟩
  refine ZaJ (fun h1 => ?_) (fun h1 => ?_)
  · refine ⟨_,rfl,z,rfl,zl,fun e H1 S1 => kE ?_ H1 S1,fun n e H1 S1 => k n ?_ H1 S1⟩
    · unfold wh; rw [if_neg h1,e]
    · unfold wh; rw [if_neg h1,e]
  have el:(Txt.slice z (some 1) none).cps.toList = z.cps.toList.drop 1:=Zdf z 1
  have ll:=len_list (Txt.slice z (some 1) none)
  rw [el,List.length_drop] at ll
  refine ⟨_,rfl,1,rfl,z,rfl,by omega,_,rfl,by omega,?_⟩
  rw [el]
  refine ⟨fun e H1 S1 => kE ?_ H1 S1,fun n e H1 S1 => ?_⟩
  · unfold wh; rw [if_pos h1,e]
  refine ⟨_,rfl,rfl,_,rfl,?_⟩
  refine ZaS (fun n0 => ⟨(by show 1 ≤ 1000; decide),kE ?_ H1 S1⟩) (fun n0 => ⟨_,rfl,_,rfl,k _ ?_ H1 S1⟩)
  · unfold wh; rw [if_pos h1,e,show n = 0 by omega]
  · unfold wh; rw [if_pos h1,e]
    cases n with
    | zero => exact absurd rfl n0
    | succ m => rfl
theorem sc_read_fraction:FnScope ["text", "parts", "top", "bottom"] ["text"] (Zag Za9):=⟨rfl,rfl,rfl,by decide +kernel,rfl,by decide +kernel,by decide +kernel⟩
theorem Zcq (h:Here K mg "read_fraction" Za9) (T:Nm mg) (c_NoText:ExcC K mg "NoText" cX) (h_divisor:Has P w K mg base "divisor" 2 ["one", "other"] Zbi) (h_read_figures:HasX P w K mg base "read_figures" 2 ["text"] (Zg5 cX)) (h_read_whole:HasX P w K mg base "read_whole" 2 ["text"] (ZiG cX)):HasX P w K mg base "read_fraction" 3 ["text"] (Zhk cX):=by
  refine h.hasX (fun f fd F => F.binds fun _ _ _ _ _ _ us hl => by obtain ⟨_,rfl⟩:=ZfD hl; exact rfl) fun f fd F => F.okx sc_read_fraction (fun vs H Q E h => ?_) (fun cdv A outer s H vs Q E hr h => ?_)
  · obtain ⟨_,rfl,_⟩:=h
    rfl
  obtain ⟨z,rfl,zl,kE,k⟩:=h
  have nd:=sc_read_fraction.nd
  refine ⟨_,(Zab (Zaq (i:=1) nd rfl (Or.inl rfl) (ZbT PySem.F.plainAttrs_str PySem.F.slot_str_split PySem.F.type_str_split ZbE (pv 0) (Zaa Zax Zac)))
    (Zab (Zau (Zai ZbL (Zah Zao (by rfl) T.len boot_len (Zaa (pv 1) Zac)) Zad (Zam _)) (Zae (ZaX c_NoText ZbF rfl (by rfl) (Zaa Zax Zac))) Zaj)
    (Zab (Zaq (i:=2) nd rfl (Or.inl rfl) (Za0 h_read_whole Zdt hr (by rfl) (Zaa (ZaI ZaB (pv 1) Zad (fun _ _ => rfl)) Zac)))
    (Zab (Zau (Zai Za3 (Zah Zao (by rfl) T.len boot_len (Zaa (pv 1) Zac)) Zad (Zam _)) (Zae (Zal (Zc9 (Zaa (pv 2) (Zaa Zad Zac))))) Zaj)
    (Zab (Zaq (i:=3) nd rfl (Or.inl rfl) (Za0 h_read_figures Zdt hr (by rfl) (Zaa (ZaI ZaB (pv 1) Zad (fun _ _ => rfl)) Zac)))
    (Zab (Zau (ZbK (Zai ZcZ (pv 3) Zad (Zam _)) (Zbf (Zai ZbL (Zay h_divisor hr (by rfl) (Zaa (pv 2) (Zaa (pv 3) Zac))) Zad (Zam _)))).pt (Zae (ZaX c_NoText ZbF rfl (by rfl) (Zaa Zax Zac))) Zaj)
    (Zae (Zal (Zc9 (Zaa (pv 2) (Zaa (pv 3) Zac))))))))))),?_⟩
  have s9:20002 ≤ sizeLine:=by decide
  refine ⟨_,rfl,rfl,_,_,rfl,rfl,(by decide +kernel),by omega,fun D nD => ?_⟩
  rw [Zei]
  have hs:=Zd5 z 47
  have short:∀ a ∈ Txt.split z ⟨#[47]⟩,a.length ≤ 20000:=fun a ha => Nat.le_trans (part_short ha) zl
  obtain ⟨h0,t0,e0⟩:=Ze2 47 z.cps.toList
  generalize Txt.split z ⟨#[47]⟩ = ps at *
  have SD:=Zak nD (.lst (ps.map V.str))
  have qD:=Zaf (H:=H) (a:=D) (o:=.lst (ps.map V.str))
  generalize upd H D _ = H1 at *
  unfold fr at kE k
  rw [← hs] at kE k
  refine ⟨_,rfl,D,_,rfl,.inl (SqL.of qD),_,_,rfl,rfl,_,rfl,?_⟩
  rw [List.length_map]
  refine Zar (fun h1 => ?_) (fun h1 => ?_)
  · have h1:(2:Int) < (ps.length:Int):=h1
    refine ⟨(by show 1 ≤ 1000; decide),kE ?_ H1 SD⟩
    match ps,h1 with
    | _ :: _ :: _ :: _,_ => rfl
  have h1:¬ (2:Int) < (ps.length:Int):=h1
  match ps,hs,short,qD,kE,k,h1 with
  | [],hs,_,_,_,_,_ => rw [e0] at hs; cases hs
  | [a],_,short,qD,kE,k,_ =>
    refine ⟨_,rfl,D,_,_,_,rfl,rfl,SqL.of qD,ZaA (j:=0) rfl,a,rfl,short a (.head _),fun e H2 S2 => kE ?_ H2 (SD.trans S2),fun n e H2 S2 => ?_⟩
    · show fr2 [a.cps.toList] = none
      simp only [fr2,e]
    refine ⟨_,rfl,D,_,rfl,.inl (SqL.of (S2 _ _ qD)),rfl,_,rfl,?_⟩
    refine ZaS (fun _ => ?_) (fun z => absurd rfl z)
    refine ⟨_,rfl,(by show 2 ≤ sizeLine; decide),fun r nr => k n 1 ?_ _ r (SD.trans (S2.trans (Zak nr _))) Zaf⟩
    show fr2 [a.cps.toList] = _
    simp only [fr2,e]
  | [a,b],_,short,qD,kE,k,_ =>
    refine ⟨_,rfl,D,_,_,_,rfl,rfl,SqL.of qD,ZaA (j:=0) rfl,a,rfl,short a (.head _),fun e H2 S2 => kE ?_ H2 (SD.trans S2),fun t e H2 S2 => ?_⟩
    · show fr2 [a.cps.toList,b.cps.toList] = none
      simp only [fr2,e]
    refine ⟨_,rfl,D,_,rfl,.inl (SqL.of (S2 _ _ qD)),rfl,_,rfl,?_⟩
    refine ZaS (fun z => absurd z (by show ¬ ((2:Nat):Int) = 1; decide)) (fun _ => ?_)
    refine ⟨_,rfl,D,_,_,_,rfl,rfl,SqL.of (S2 _ _ qD),ZaA (j:=1) rfl,b,rfl,short b (.tail _ (.head _)),fun e' H3 S3 => kE ?_ H3 (SD.trans (S2.trans S3)),fun n e' H3 S3 => ?_⟩
    · show fr2 [a.cps.toList,b.cps.toList] = none
      simp only [fr2,e,e']
    have S03:=SD.trans (S2.trans S3)
    have bad:(n < 2 ∨ 1 < Int.gcd t n) → E (.ref cX) none H3:=fun q => kE (by
      show fr2 [a.cps.toList,b.cps.toList] = none
      simp only [fr2,e,e']; exact if_pos q) H3 S03
    refine ⟨_,rfl,_,_,rfl,rfl,_,rfl,?_⟩
    refine Zar (fun h2 => Zb5 ⟨(by show 1 ≤ 1000; decide),bad (.inl ?_)⟩) (fun h2 => ?_)
    · have h2:(n:Int) < 2:=h2
      omega
    refine ⟨_,rfl,_,rfl,t,n,rfl,_,_,rfl,rfl,_,rfl,?_⟩
    refine Zar (fun h3 => ⟨(by show 1 ≤ 1000; decide),bad (.inr ?_)⟩) (fun h3 => ?_)
    · have h3:(1:Int) < (Int.gcd t n:Int):=h3
      omega
    refine ⟨_,rfl,_,rfl,(by show 2 ≤ sizeLine; decide),fun r nr => k t n ?_ _ r (S03.trans (Zak nr _)) Zaf⟩
    have h2:¬ (n:Int) < 2:=h2
    have h3:¬ (1:Int) < (Int.gcd t n:Int):=h3
    show fr2 [a.cps.toList,b.cps.toList] = _
    simp only [fr2,e,e']
    exact if_neg (by omega)
  | _ :: _ :: _ :: _,_,_,_,_,_,h1 => exact absurd (by show (2:Int) < ((_ + 1 + 1 + 1:Nat):Int); omega) h1
theorem sc_read_rest:FnScope ["kind", "text", "number"] ["kind", "text"] (Zag ZbN):=⟨rfl,rfl,rfl,by decide +kernel,rfl,by decide +kernel,by decide +kernel⟩
theorem Zej (h:Here K mg "read_rest" ZbN) (cl:Cls K CR) (c_NoText:ExcC K mg "NoText" cX) (hI:HasM P w K mg base CR "is_number" 2 ["self", "thing"] [] (Zfb (fun H s => ∃ p,ReA CR p H s) fun H s v b => ∀ p,ReA CR p H s → RsB p v b)) (h_read_figures:HasX P w K mg base "read_figures" 2 ["text"] (Zg5 cX)):HasX P w K mg base "read_rest" 3 ["kind", "text"] (ZiH CR cX):=by
  refine h.hasX (fun f fd F => F.binds fun _ _ _ _ _ _ us hl => by obtain ⟨_,_,rfl⟩:=Zdu hl; exact rfl) fun f fd F => F.okx sc_read_rest (fun vs H Q E h => ?_) (fun cdv A outer s H vs Q E hr h => ?_)
  · obtain ⟨_,_,_,rfl,_⟩:=h
    rfl
  obtain ⟨kk,p,z,rfl,⟨dx,hk⟩,zl,kE,k⟩:=h
  have nd:=sc_read_rest.nd
  refine ⟨_,(Zab (Zaq (i:=2) nd rfl (Or.inl rfl) (Za0 h_read_figures Zdt hr (by rfl) (Zaa (pv 1) Zac)))
    (Zab (Zau (ZaQ (ZaN (ZgO (pv 0) hr (Zaa (pv 2) Zac)))) (Zae (ZaX c_NoText ZbF rfl (by rfl) (Zaa Zax Zac))) Zaj)
    (Zae (Zal (pv 2))))),?_⟩
  refine ⟨_,rfl,z,rfl,zl,fun e H1 S1 => kE (fun n e' => by rw [e] at e'; cases e') H1 S1,fun n e H1 S1 => ?_⟩
  refine ⟨_,rfl,kk,CR,dx,_,_,_,_,rfl,S1 _ _ hk,cl,hI,ZiF p (by decide),_,rfl,kk,_,rfl,⟨p,dx,S1 _ _ hk⟩,.inl (.inl ⟨_,rfl⟩),fun b hb => ?_⟩
  have hb:=hb p ⟨dx,S1 _ _ hk⟩
  have eb:b = decide ((n:Int) < p):=RsB.det hb (.inl ⟨_,rfl,by rw [decide_eq_true (show (0:Int) ≤ (n:Int) by omega),Bool.true_and]⟩)
  refine ⟨_,rfl,?_⟩
  subst eb
  refine ZaJ (fun h1 => ⟨(by show 1 ≤ 1000; decide),kE (fun m e' => by rw [e] at e'; cases e'; exact h1) H1 S1⟩) (fun h1 => ⟨_,rfl,k n e h1 H1 S1⟩)
theorem Zc1:FnScope ["kind", "text"] ["kind", "text"] (Zag Zbp):=⟨rfl,rfl,rfl,by decide +kernel,rfl,by decide +kernel,by decide +kernel⟩
theorem Zc2 {CB:Addr} (h:Here K mg "read_number" Zbp) (T:Nm mg) (kd:Kd K mg CF CR) (kc:Kc K mg CF CR CB) (h_need_text:HasX P w K mg base "need_text" 3 ["text"] (Zby K cX)) (h_read_fraction:HasX P w K mg base "read_fraction" 3 ["text"] (Zhk cX)) (h_read_rest:HasX P w K mg base "read_rest" 3 ["kind", "text"] (ZiH CR cX)):HasX P w K mg base "read_number" 4 ["kind", "text"] (ZiI K CF CR cX):=by
  refine h.hasX (fun f fd F => F.binds fun _ _ _ _ _ _ us hl => by obtain ⟨_,_,rfl⟩:=Zdu hl; exact rfl) fun f fd F => F.okx Zc1 (fun vs H Q E h => ?_) (fun cdv A outer s H vs Q E hr h => ?_)
  · obtain ⟨_,_,_,rfl,_⟩:=h
    rfl
  obtain ⟨kk,p,v,rfl,hk,tv,kE,k⟩:=h
  refine ⟨_,(Zab (Zcz (Za0 h_need_text Zdt hr (by rfl) (Zaa (pv 1) Zac)))
    (Zae (Zal (ZeO (ZaN (Zah Zat (by rfl) T.isinstance boot_isinstance (Zaa (pv 0) (Zaa (ZaH (v:=.ref CF) (by rfl) kc.f.m rfl) Zac)))) (Za0 h_read_fraction Zdt hr (by rfl) (Zaa (pv 1) Zac)) (Za0 h_read_rest Zdt hr (by rfl) (Zaa (pv 0) (Zaa (pv 1) Zac))))))),?_⟩
  refine ⟨_,rfl,v,rfl,tv,fun n => kE (fun z e => absurd e (n z)) H (Same.refl _),?_⟩
  rintro ⟨z,rfl⟩
  have zl:z.length ≤ 20000:=by
    rcases tv with ⟨z',e,l⟩ | ⟨Ty,ty,kit⟩
    · cases e; exact l
    · cases ty with
      | of ty =>
        cases ty with
        | str => rw [ZaD K _] at kit; cases kit
  obtain ⟨C,ty,hC⟩:=Zhl kd kc hk
  rcases hC with ⟨p0,_,kit⟩ | ⟨p0,hR,kit⟩
  · refine ⟨_,rfl,_,_,_,_,rfl,ty,.ref kit,_,rfl,Zb5 ?_⟩
    refine ⟨_,rfl,z,rfl,zl,fun e H1 S1 => kE (fun z' e' => by cases e'; exact .inr ⟨p0,e⟩) H1 S1,fun t b e H1 r S1 hr => k z rfl H1 _ S1 (.inr ⟨p0,r,t,b,e,rfl,hr⟩)⟩
  · refine ⟨_,rfl,_,_,_,_,rfl,ty,.ref kit,_,rfl,Zcj ?_⟩
    refine ⟨_,rfl,_,rfl,kk,p,z,rfl,hR,zl,fun e H1 S1 => kE (fun z' e' => by cases e'; exact .inl ⟨p0,e⟩) H1 S1,fun n e l H1 S1 => k z rfl H1 _ S1 (.inl ⟨p0,n,e,l,rfl⟩)⟩
theorem sc_show_number:FnScope ["kind", "number", "top", "bottom"] ["kind", "number"] (Zag Zbo):=⟨rfl,rfl,rfl,by decide +kernel,rfl,by decide +kernel,by decide +kernel⟩
theorem ZbZ {a:Int} (h:a.natAbs ≤ 10 ^ 60):(Str.ofString (toString a)).length ≤ 62:=by
  have e:=int_text_length_le10 (a:=a) (k:=61) (by decide) (Nat.lt_of_le_of_lt h (by decide))
  rw [PySem.ofString_length]; exact e
theorem Zek {a:Int} (h:a.natAbs ≤ 10 ^ 60):a.natAbs.log2 < 1920:=by
  by_cases z:a.natAbs = 0
  · rw [z]; decide
  · exact (Nat.log2_lt z).mpr (Nat.lt_of_le_of_lt h (Nat.lt_of_lt_of_le (show 10 ^ 60 < 2 ^ 200 by decide) (Nat.pow_le_pow_right (by decide) (by decide))))
theorem Zas (x y:Str):(x ++ y).length = x.length + y.length:=Str.length_append x y
theorem Zfx (x:Str):Str.empty ++ x = x:=Str.of_list (by rw [Str.cps_append,Array.toList_append]; rfl)
def Zgt (CF CR:Addr):Sp:=fun vs H Q _ => ∃ (k:Addr) (p:Int) (v:V),vs = [.ref k,v] ∧ KdA CF CR p H k ∧ Nu H p v ∧ ∀ z,ShV H p v z → Q (.str z) H
theorem Zc3 {CB:Addr} (h:Here K mg "show_number" Zbo) (T:Nm mg) (Ts:mg "str" = none) (kd:Kd K mg CF CR) (kc:Kc K mg CF CR CB):Has P w K mg base "show_number" 1 ["kind", "number"] (Zgt CF CR):=by
  refine h.has (fun f fd F => F.binds fun _ _ _ _ _ _ us hl => by obtain ⟨_,_,rfl⟩:=Zdu hl; exact rfl) fun f fd F => F.ok sc_show_number (fun vs H Q E h => ?_) (fun cdv A outer s H vs Q E hr h => ?_)
  · obtain ⟨_,_,_,rfl,_⟩:=h
    rfl
  obtain ⟨kk,p,v,rfl,hk,nu,k⟩:=h
  have nd:=sc_show_number.nd
  refine ⟨_,(Zab (Zau (ZaQ (ZaN (Zah Zat (by rfl) T.isinstance boot_isinstance (Zaa (pv 0) (Zaa (ZaH (v:=.ref CF) (by rfl) kc.f.m rfl) Zac))))) (Zae (Zal (ZaG ZaL (by rfl) Ts boot_str (Zaa (pv 1) Zac)))) Zaj)
    (Zab (Zaq (i:=2) nd rfl (Or.inl rfl) (ZaI Zci (pv 1) Zad (fun _ _ => rfl)))
    (Zab (Zaq (i:=3) nd rfl (Or.inl rfl) (ZaI Zci (pv 1) Zad (fun _ _ => rfl)))
    (Zae (Zal (ZeO (Zai Za3 (pv 3) Zad (Zam _)) (ZaG ZaL (by rfl) Ts boot_str (Zaa (pv 2) Zac)) (ZhQ (pv 2) (pv 3)))))))),?_⟩
  obtain ⟨C,ty,hC⟩:=Zhl kd kc hk
  rcases hC with ⟨p0,_,kit⟩ | ⟨p0,hR,kit⟩
  · refine ⟨_,rfl,_,_,_,_,rfl,ty,.ref kit,_,rfl,Zcj ?_⟩
    rcases nu with ⟨_,t,a,b,rfl,ht,fc,la,lb⟩ | ⟨z,_⟩
    case inr => omega
    refine ⟨_,rfl,t,_,_,_,rfl,rfl,SqT.of ht,ZaA (j:=0) rfl,?_⟩
    refine ⟨_,rfl,t,_,_,_,rfl,rfl,SqT.of ht,ZaA (j:=1) rfl,?_⟩
    refine ⟨_,rfl,rfl,_,rfl,?_⟩
    have s2:200 ≤ sizeLine:=by decide
    have l1:=ZbZ la
    have l2:=ZbZ lb
    refine ZaS (fun b1 => ?_) (fun b1 => ?_)
    · refine ⟨_,rfl,a,rfl,Zek la,k _ (.inr ⟨p0,t,a,b,rfl,ht,?_⟩)⟩
      unfold shN; rw [if_pos b1]
    · refine ⟨_,rfl,a,rfl,Zek la,?_⟩
      rw [Zfx]
      refine ⟨by omega,?_,_,rfl,b,rfl,Zek lb,?_,k _ (.inr ⟨p0,t,a,b,rfl,ht,?_⟩)⟩
      · rw [Zas]; show _ + 1 ≤ _; omega
      · rw [Zas,Zas]; show _ + 1 + _ ≤ _; omega
      · unfold shN; rw [if_neg b1]; rfl
  · refine ⟨_,rfl,_,_,_,_,rfl,ty,.ref kit,_,rfl,Zb5 ?_⟩
    rcases nu with ⟨z,_⟩ | ⟨_,x,rfl,x0,x1⟩
    · omega
    rcases hk with ⟨z,_⟩ | ⟨_,pl,_⟩
    · omega
    exact ⟨_,rfl,x,rfl,Zek (Nat.le_trans (show x.natAbs ≤ 1000000 by omega) (by decide)),k _ (.inl ⟨p0,x,rfl,rfl⟩)⟩
end
end My
namespace My
open PySem L2 PyProof.Rows
def AlG {α β:Type} (R:α → β → Prop) (xs:List α) (ys:List β):Prop:=xs.length = ys.length ∧ ∀ (i:Nat) x y,xs[i]? = some x → ys[i]? = some y → R x y
section
variable {α β γ:Type} {R S:α → β → Prop}
theorem AlG.nil:AlG R [] []:=⟨rfl,fun i x y h _ => by simp at h⟩
theorem AlG.snoc {xs:List α} {ys:List β} {x:α} {y:β} (h:AlG R xs ys) (r:R x y):AlG R (xs ++ [x]) (ys ++ [y]):=by
  refine ⟨by rw [List.length_append,List.length_append,h.1]; rfl,fun i a b ha hb => ?_⟩
  by_cases q:i < xs.length
  · rw [List.getElem?_append_left q] at ha
    rw [List.getElem?_append_left (by rw [← h.1]; exact q)] at hb
    exact h.2 i a b ha hb
  · rw [List.getElem?_append_right (by omega)] at ha
    rw [List.getElem?_append_right (by rw [← h.1]; omega),← h.1] at hb
    have z:i - xs.length = 0:=by
      have:=(List.getElem?_eq_some_iff.mp ha).1
      simp at this; omega
    rw [z] at ha hb
    cases ha; cases hb; exact r
theorem AlG.step {xs:List α} {ys:List β} {x:α} {y:β} {i:Nat} (h:AlG R (xs.take i) ys) (hx:xs[i]? = some x) (r:R x y):AlG R (xs.take (i + 1)) (ys ++ [y]):=by
  rw [List.take_add_one,hx]; exact h.snoc r
theorem AlG.mono {xs:List α} {ys:List β} (h:AlG R xs ys) (f:∀ x y,R x y → S x y):AlG S xs ys:=⟨h.1,fun i x y hx hy => f x y (h.2 i x y hx hy)⟩
theorem AlG.of_mem {xs:List α} {ys:List β} (h:AlG R xs ys) {x:α} (hx:x ∈ xs):∃ y ∈ ys,R x y:=by
  obtain ⟨i,hi,e⟩:=List.getElem_of_mem hx
  have hy:i < ys.length:=by rw [← h.1]; exact hi
  exact ⟨ys[i],List.getElem_mem hy,h.2 i x _ (by rw [List.getElem?_eq_getElem hi,e]) (List.getElem?_eq_getElem hy)⟩
theorem AlG.get {xs:List α} {ys:List β} (h:AlG R xs ys) {i:Nat} {x:α} (hx:xs[i]? = some x):∃ y,ys[i]? = some y ∧ R x y:=by
  have hi:=(List.getElem?_eq_some_iff.mp hx).1
  have hy:i < ys.length:=by rw [← h.1]; exact hi
  exact ⟨ys[i],List.getElem?_eq_getElem hy,h.2 i x _ hx (List.getElem?_eq_getElem hy)⟩
theorem AlG.getR {xs:List α} {ys:List β} (h:AlG R xs ys) {i:Nat} {y:β} (hy:ys[i]? = some y):∃ x,xs[i]? = some x ∧ R x y:=by
  have hi:=(List.getElem?_eq_some_iff.mp hy).1
  have hx:i < xs.length:=by rw [h.1]; exact hi
  exact ⟨xs[i],List.getElem?_eq_getElem hx,h.2 i _ y (List.getElem?_eq_getElem hx) hy⟩
theorem AlG.det {xs:List α} {ys zs:List β} (h:AlG R xs ys) (h':AlG R xs zs) (f:∀ x ∈ xs,∀ y z,R x y → R x z → y = z):ys = zs:=by
  refine List.ext_getElem? fun i => ?_
  by_cases q:i < xs.length
  · have hx:=List.getElem?_eq_getElem q
    obtain ⟨y,hy,r1⟩:=h.get hx
    obtain ⟨z,hz,r2⟩:=h'.get hx
    rw [hy,hz,f _ (List.getElem_mem q) y z r1 r2]
  · rw [List.getElem?_eq_none (by rw [← h.1]; omega),List.getElem?_eq_none (by rw [← h'.1]; omega)]
end
structure RTb (H:Hp) (p:Int) (t:Addr) (rs:List Addr) (R:List (List V)):Prop where
  l:H t = some (.lst (rs.map V.ref))
  r:AlG (fun r row => H r = some (.lst row)) rs R
  n:∀ row ∈ R,∀ v ∈ row,Nu H p v
theorem RTb.same {H H':Hp} {p:Int} {t:Addr} {rs:List Addr} {R:List (List V)} (h:RTb H p t rs R) (S:Same H H'):RTb H' p t rs R:=⟨S _ _ h.l,h.r.mono fun _ _ q => S _ _ q,fun row hr v hv => (h.n row hr v hv).same S⟩
theorem ShV.same {H H':Hp} {p:Int} {v:V} {z:Str} (h:ShV H p v z) (S:Same H H'):ShV H' p v z:=by
  rcases h with h | ⟨p0,t,a,b,e,q,ez⟩
  · exact .inl h
  · exact .inr ⟨p0,t,a,b,e,S _ _ q,ez⟩
theorem ShV.det {H:Hp} {p:Int} {v:V} {z z':Str} (h:ShV H p v z) (h':ShV H p v z'):z = z':=by
  rcases h with ⟨p0,i,rfl,rfl⟩ | ⟨p0,t,a,b,rfl,q,rfl⟩
  · rcases h' with ⟨_,i',e,rfl⟩ | ⟨z,_⟩
    · cases e; rfl
    · omega
  · rcases h' with ⟨z,_⟩ | ⟨_,t',a',b',e,q',rfl⟩
    · omega
    · cases e; rw [q] at q'; cases q'; rfl
theorem ShV.len {H:Hp} {p:Int} {v:V} {z:Str} (h:ShV H p v z) (nu:Nu H p v) (pk:PK p):z.length ≤ 125:=by
  rcases h with ⟨p0,i,rfl,rfl⟩ | ⟨p0,t,a,b,rfl,q,rfl⟩
  · rcases nu with ⟨z,_⟩ | ⟨_,x,e,x0,x1⟩
    · omega
    cases e
    rcases pk with z | ⟨_,pl⟩
    · omega
    exact Nat.le_trans (ZbZ (Nat.le_trans (show i.natAbs ≤ 1000000 by omega) (by decide))) (by decide)
  · rcases nu with ⟨_,t',a',b',e,q',_,la,lb⟩ | ⟨z,_⟩
    · cases e
      rw [q] at q'; cases q'
      unfold shN
      split
      · exact Nat.le_trans (ZbZ la) (by decide)
      · rw [Zas,Zas]
        have:=ZbZ la
        have:=ZbZ lb
        show _ + 1 + _ ≤ 125
        omega
    · omega
def ShR (H:Hp) (p:Int) (row:List V) (z:Str):Prop:=∃ zs,AlG (ShV H p) row zs ∧ z = Txt.join " " zs
def ShT (H:Hp) (p:Int) (R:List (List V)) (z:Str):Prop:=∃ zs,AlG (ShR H p) R zs ∧ z = Txt.join "; " zs
theorem ShR.det {H:Hp} {p:Int} {row:List V} {z z':Str} (h:ShR H p row z) (h':ShR H p row z'):z = z':=by
  obtain ⟨zs,a,rfl⟩:=h
  obtain ⟨zs',a',rfl⟩:=h'
  rw [a.det a' fun _ _ _ _ => ShV.det]
theorem ShT.det {H:Hp} {p:Int} {R:List (List V)} {z z':Str} (h:ShT H p R z) (h':ShT H p R z'):z = z':=by
  obtain ⟨zs,a,rfl⟩:=h
  obtain ⟨zs',a',rfl⟩:=h'
  rw [a.det a' fun _ _ _ _ => ShR.det]
theorem ShR.same {H H':Hp} {p:Int} {row:List V} {z:Str} (h:ShR H p row z) (S:Same H H'):ShR H' p row z:=by
  obtain ⟨zs,a,rfl⟩:=h
  exact ⟨zs,a.mono fun _ _ q => q.same S,rfl⟩
theorem ShT.same {H H':Hp} {p:Int} {R:List (List V)} {z:Str} (h:ShT H p R z) (S:Same H H'):ShT H' p R z:=by
  obtain ⟨zs,a,rfl⟩:=h
  exact ⟨zs,a.mono fun _ _ q => q.same S,rfl⟩
theorem Zel:(" " : Str).length = 1:=by decide +kernel
theorem Zfe:("; " : Str).length = 2:=by decide +kernel
theorem ZeI {a n:Nat} (h:a ≤ 8):a * n ≤ 8 * n:=Nat.mul_le_mul_right _ h
theorem ShR.len {H:Hp} {p:Int} {row:List V} {z:Str} (h:ShR H p row z) (nu:∀ v ∈ row,Nu H p v) (pk:PK p) (l:row.length ≤ 8):z.length ≤ 1010:=by
  obtain ⟨zs,a,rfl⟩:=h
  have:=Ze7 (sep := " ") (zs:=zs) (n:=125) fun z hz => by
    obtain ⟨i,hi⟩:=List.getElem?_of_mem hz
    obtain ⟨v,hv,s⟩:=a.getR hi
    exact s.len (nu v (List.mem_of_getElem? hv)) pk
  have:=ZeI (n:=125) (show zs.length ≤ 8 by rw [← a.1]; exact l)
  have:=a.1
  rw [Zel] at *
  omega
theorem Zhm {H:Hp} {p:Int} {row:List V} {zs:List Str} (a:AlG (ShV H p) row zs) (nu:∀ v ∈ row,Nu H p v) (pk:PK p) (l:row.length ≤ 8):JoinOk " " zs = true:=by
  refine Zdi ?_
  have:=Zgl (zs:=zs) (n:=125) fun z hz => by
    obtain ⟨i,hi⟩:=List.getElem?_of_mem hz
    obtain ⟨v,hv,s⟩:=a.getR hi
    exact s.len (nu v (List.mem_of_getElem? hv)) pk
  have:=ZeI (n:=125) (show zs.length ≤ 8 by rw [← a.1]; exact l)
  have s2:2000 ≤ sizeLine:=by decide
  have:=a.1
  rw [Zel]
  omega
theorem Zhn {H:Hp} {p:Int} {R:List (List V)} {zs:List Str} (a:AlG (ShR H p) R zs) (nu:∀ row ∈ R,∀ v ∈ row,Nu H p v) (pk:PK p) (l:R.length ≤ 8) (l2:∀ row ∈ R,row.length ≤ 8):JoinOk "; " zs = true ∧ (Txt.join "; " zs).length ≤ 9000:=by
  have hz:∀ z ∈ zs,z.length ≤ 1010:=fun z hz => by
    obtain ⟨i,hi⟩:=List.getElem?_of_mem hz
    obtain ⟨row,hr,s⟩:=a.getR hi
    exact s.len (nu row (List.mem_of_getElem? hr)) pk (l2 row (List.mem_of_getElem? hr))
  have m:=ZeI (n:=1010) (show zs.length ≤ 8 by rw [← a.1]; exact l)
  have e:=a.1
  refine ⟨Zdi ?_,?_⟩
  · have:=Zgl hz
    have s2:20000 ≤ sizeLine:=by decide
    rw [Zfe]
    omega
  · have:=Ze7 (sep := "; ") hz
    rw [Zfe] at this
    omega
def Zcf (p:Int) (z:Str):Prop:=(Txt.split z " ").length ≤ 7 ∧ ∀ w ∈ Txt.split z " ", ¬ Nor p w.cps.toList
def Zfy (p:Int) (z:Str):Prop:=(Txt.split z "; ").length ≤ 7 ∧ (∀ q ∈ Txt.split z "; ", Zcf p q) ∧ ∃ m,∀ q ∈ Txt.split z "; ", (Txt.split q " ").length = m
def RdR (p:Int) (z:Str) (H:Hp) (row:List V):Prop:=AlG (fun (w:Str) v => Rdn p w.cps.toList H v) (Txt.split z " ") row
structure RdT (p:Int) (z:Str) (H:Hp) (t:Addr) (rs:List Addr) (R:List (List V)):Prop where
  l:H t = some (.lst (rs.map V.ref))
  r:AlG (fun r row => H r = some (.lst row)) rs R
  n:AlG (fun q row => RdR p q H row) (Txt.split z "; ") R
theorem RdR.same {p:Int} {z:Str} {H H':Hp} {row:List V} (h:RdR p z H row) (S:Same H H'):RdR p z H' row:=h.mono fun _ _ q => q.same S
theorem RdT.same {p:Int} {z:Str} {H H':Hp} {t:Addr} {rs:List Addr} {R:List (List V)} (h:RdT p z H t rs R) (S:Same H H'):RdT p z H' t rs R:=⟨S _ _ h.l,h.r.mono fun _ _ q => S _ _ q,h.n.mono fun _ _ q => q.same S⟩
def Zbz (CF CR:Addr):Sp:=fun vs H Q _ => ∃ (k:Addr) (p:Int) (a:Addr) (row:List V),vs = [.ref k,.ref a] ∧ KdA CF CR p H k ∧ PK p ∧ H a = some (.lst row) ∧ (∀ v ∈ row,Nu H p v) ∧ row.length ≤ 8 ∧ ∀ H' z,Same H H' → ShR H p row z → Q (.str z) H'
def Zb0 (CF CR:Addr):Sp:=fun vs H Q _ => ∃ (k:Addr) (p:Int) (t:Addr) (rs:List Addr) (R:List (List V)),vs = [.ref k,.ref t] ∧ KdA CF CR p H k ∧ PK p ∧ RTb H p t rs R ∧ R.length ≤ 8 ∧ (∀ row ∈ R,row.length ≤ 8) ∧ ∀ H' z,Same H H' → ShT H p R z → Q (.str z) H'
def ZcV (CF CR cX:Addr):Sp:=fun vs H Q E => ∃ (k:Addr) (p:Int) (z:Str),vs = [.ref k,.str z] ∧ KdA CF CR p H k ∧ z.length ≤ 20000 ∧ (¬ Zcf p z → ∀ H',Same H H' → E (.ref cX) none H') ∧ (Zcf p z → ∀ H' D row,Same H H' → H D = none → H' D = some (.lst row) → RdR p z H' row → Q (.ref D) H')
def Zb1 (K:PySem.W.Frag) (CF CR cX:Addr):Sp:=fun vs H Q E => ∃ (k:Addr) (p:Int) (v:V),vs = [.ref k,v] ∧ KdA CF CR p H k ∧ TxtV K H v ∧ ((∀ z,v = .str z → ¬ Zfy p z) → ∀ H',Same H H' → E (.ref cX) none H') ∧ ∀ z,v = .str z → Zfy p z → ∀ H' t rs R,Same H H' → RdT p z H' t rs R → rs.Nodup → (∀ r ∈ rs,H r = none) → t ∉ rs → Q (.ref t) H'
end My
namespace My
open PySem L2 PyProof.Rows
section
variable {P:Program} {w:World} {K:PySem.W.Frag} {mg:Str → Option Value} {base:Heap} {CF CR cX:Addr}
theorem ZcW:FnScope ["kind", "numbers"] ["kind", "numbers"] (Zag Zbd):=⟨rfl,rfl,rfl,by decide +kernel,rfl,by decide +kernel,by decide +kernel⟩
theorem ZcX (h:Here K mg "show_numbers" Zbd) (h_show_number:Has P w K mg base "show_number" 1 ["kind", "number"] (Zgt CF CR)):Has P w K mg base "show_numbers" 2 ["kind", "numbers"] (Zbz CF CR):=by
  refine h.has (fun f fd F => F.binds fun _ _ _ _ _ _ us hl => by obtain ⟨_,_,rfl⟩:=Zdu hl; exact rfl) fun f fd F => F.ok ZcW (fun vs H Q E h => ?_) (fun cdv A outer s H vs Q E hr h => ?_)
  · obtain ⟨_,_,_,_,rfl,_⟩:=h
    rfl
  obtain ⟨kk,p,a,row,rfl,hk,pk,ha,nu,l8,k⟩:=h
  refine ⟨_,(Zae (Zal (ZbT PySem.F.plainAttrs_str PySem.F.slot_str_join PySem.F.type_str_join Zdy Zax (Zaa (Zbc ["number"] [(0, "kind")] rfl (ZaF (pv 1)) (by exact fun _ _ _ _ => (Zaw (i:=0) (show (["number", "kind"]:List Str).Nodup by decide +kernel) rfl (Or.inl rfl))) (by exact fun _ _ _ _ => (Zay h_show_number hr (by rfl) (Zaa (pv 1) (Zaa (pv 0) Zac)))) ⟨⟨rfl,rfl,Or.inl rfl⟩,trivial⟩) Zac)))),?_⟩
  refine ⟨rfl,_,rfl,a,rfl,⟨_,SqL.of ha⟩,?_⟩
  refine ZaE (xs:=row) (fun i ys H' => H = H' ∧ ∃ zs:List Str,ys = zs.map V.str ∧ AlG (ShV H p) (row.take i) zs) (by omega) ⟨rfl,[],rfl,AlG.nil⟩ ?_ ?_ ?_
  · rintro i ys _ - ⟨rfl,_⟩
    exact SqL.of ha
  · rintro i x ys _ hx hy ⟨rfl,zs,rfl,al⟩
    refine ⟨_,rfl,_,rfl,kk,p,x,rfl,hk,nu x (List.mem_of_getElem? hx),fun z sz => ⟨rfl,zs ++ [z],by rw [List.map_append]; rfl,al.step hx sz⟩⟩
  · rintro ys _ hy ⟨rfl,zs,rfl,al⟩
    rw [List.take_length] at al
    refine fun D nD => ⟨" ", D,zs,rfl,rfl,SqL.of Zaf,Zhm al nu pk l8,k _ _ (Zak nD _) ⟨zs,al,rfl⟩⟩
theorem ZdG:FnScope ["kind", "table"] ["kind", "table"] (Zag Zbt):=⟨rfl,rfl,rfl,by decide +kernel,rfl,by decide +kernel,by decide +kernel⟩
theorem ZdH (h:Here K mg "show_table" Zbt) (h_show_numbers:Has P w K mg base "show_numbers" 2 ["kind", "numbers"] (Zbz CF CR)):Has P w K mg base "show_table" 3 ["kind", "table"] (Zb0 CF CR):=by
  refine h.has (fun f fd F => F.binds fun _ _ _ _ _ _ us hl => by obtain ⟨_,_,rfl⟩:=Zdu hl; exact rfl) fun f fd F => F.ok ZdG (fun vs H Q E h => ?_) (fun cdv A outer s H vs Q E hr h => ?_)
  · obtain ⟨_,_,_,_,_,rfl,_⟩:=h
    rfl
  obtain ⟨kk,p,t,rs,R,rfl,hk,pk,tb,l8,l82,k⟩:=h
  refine ⟨_,(Zae (Zal (ZbT PySem.F.plainAttrs_str PySem.F.slot_str_join PySem.F.type_str_join Zdy Zax (Zaa (Zbc ["row"] [(0, "kind")] rfl (ZaF (pv 1)) (by exact fun _ _ _ _ => (Zaw (i:=0) (show (["row", "kind"]:List Str).Nodup by decide +kernel) rfl (Or.inl rfl))) (by exact fun _ _ _ _ => (Zay h_show_numbers hr (by rfl) (Zaa (pv 1) (Zaa (pv 0) Zac)))) ⟨⟨rfl,rfl,Or.inl rfl⟩,trivial⟩) Zac)))),?_⟩
  have lr:=tb.r.1
  refine ⟨rfl,_,rfl,t,rfl,⟨_,SqL.of tb.l⟩,?_⟩
  refine ZaE (xs:=rs.map V.ref) (fun i ys H' => Same H H' ∧ ∃ zs:List Str,ys = zs.map V.str ∧ AlG (ShR H p) (R.take i) zs) (by rw [List.length_map]; omega) ⟨Same.refl _,[],rfl,AlG.nil⟩ ?_ ?_ ?_
  · rintro i ys H1 - ⟨S1,_⟩
    exact SqL.of (S1 _ _ tb.l)
  · rintro i x ys H1 hx hy ⟨S1,zs,rfl,al⟩
    rw [List.getElem?_map] at hx
    cases hh:rs[i]? with
    | none => rw [hh] at hx; cases hx
    | some r =>
    rw [hh] at hx
    obtain rfl:V.ref r = x:=Option.some.inj hx
    obtain ⟨row,hrow,hr'⟩:=tb.r.get hh
    have mr:=List.mem_of_getElem? hrow
    refine ⟨_,rfl,_,rfl,kk,p,r,row,rfl,hk.same S1,pk,S1 _ _ hr',fun v hv => (tb.n row mr v hv).same S1,l82 row mr,fun H2 z S2 sz => ⟨S1.trans S2,zs ++ [z],by rw [List.map_append]; rfl,al.step hrow ?_⟩⟩
    obtain ⟨ws,aw,rfl⟩:=sz
    refine ⟨ws,⟨aw.1,fun j v w hv hw => ?_⟩,rfl⟩
    have s1:=aw.2 j v w hv hw
    have nv:=tb.n row mr v (List.mem_of_getElem? hv)
    rcases s1 with s1 | ⟨p0,t',a',b',e,q,ez⟩
    · exact .inl s1
    · rcases nv with ⟨_,t2,a2,b2,e2,q2,_⟩ | ⟨z,_⟩
      · rw [e] at e2; cases e2
        rw [S1 _ _ q2] at q; cases q
        exact .inr ⟨p0,t',_,_,e,q2,ez⟩
      · omega
  · rintro ys H1 hy ⟨S1,zs,rfl,al⟩
    rw [List.length_map,lr,List.take_length] at al
    refine fun D nD => ⟨"; ", D,zs,rfl,rfl,SqL.of Zaf,(Zhn al tb.n pk l8 l82).1,k _ _ (S1.trans (Zak nD _)) ⟨zs,al,rfl⟩⟩
theorem sc_read_row:FnScope ["kind", "text", "words"] ["kind", "text"] (Zag Zcc):=⟨rfl,rfl,rfl,by decide +kernel,rfl,by decide +kernel,by decide +kernel⟩
theorem ZeJ (h:Here K mg "read_row" Zcc) (T:Nm mg) (Tm:∃ t,mg "MOST" = some (.int 7 t)) (c_NoText:ExcC K mg "NoText" cX) (h_read_number:HasX P w K mg base "read_number" 4 ["kind", "text"] (ZiI K CF CR cX)):HasX P w K mg base "read_row" 5 ["kind", "text"] (ZcV CF CR cX):=by
  refine h.hasX (fun f fd F => F.binds fun _ _ _ _ _ _ us hl => by obtain ⟨_,_,rfl⟩:=Zdu hl; exact rfl) fun f fd F => F.okx sc_read_row (fun vs H Q E h => ?_) (fun cdv A outer s H vs Q E hr h => ?_)
  · obtain ⟨_,_,_,rfl,_⟩:=h
    rfl
  obtain ⟨kk,p,z,rfl,hk,zl,kE,k⟩:=h
  obtain ⟨tm,Tm⟩:=Tm
  have nd:=sc_read_row.nd
  refine ⟨_,(Zab (Zaq (i:=2) nd rfl (Or.inl rfl) (ZbT PySem.F.plainAttrs_str PySem.F.slot_str_split PySem.F.type_str_split ZbE (pv 1) (Zaa Zax Zac)))
    (Zab (Zau (Zai ZbL (Zah Zao (by rfl) T.len boot_len (Zaa (pv 2) Zac)) (ZaH (v:=.int 7) (by rfl) Tm ⟨_,rfl⟩) (Zam _)) (Zae (ZaX c_NoText ZbF rfl (by rfl) (Zaa Zax Zac))) Zaj)
    (Zae (Zal (Ze6 ["word"] [(0, "kind")] (ZaF (pv 2)) (by exact fun _ _ _ _ => (Zaw (i:=0) (show (["word", "kind"]:List Str).Nodup by decide +kernel) rfl (Or.inl rfl))) (by exact fun _ _ _ _ => (Za0 h_read_number ZiB hr (by rfl) (Zaa (pv 1) (Zaa (pv 0) Zac)))) ⟨⟨rfl,rfl,Or.inl rfl⟩,trivial⟩))))),?_⟩
  have s9:20002 ≤ sizeLine:=by decide
  refine ⟨_,rfl,rfl,_,_,rfl,rfl,(by decide +kernel),by omega,fun D nD => ?_⟩
  have short:∀ a ∈ Txt.split z " ", a.length ≤ 20000:=fun a ha => Nat.le_trans (part_short ha) zl
  unfold Zcf at kE k
  unfold RdR at k
  generalize Txt.split z " " = ws at *
  have SD:=Zak nD (.lst (ws.map V.str))
  have qD:=Zaf (H:=H) (a:=D) (o:=.lst (ws.map V.str))
  generalize upd H D _ = H1 at *
  refine ⟨_,rfl,D,_,rfl,.inl (SqL.of qD),_,_,rfl,rfl,_,rfl,?_⟩
  rw [List.length_map]
  refine Zar (fun h1 => ?_) (fun h1 => ?_)
  · have h1:(7:Int) < (ws.length:Int):=h1
    exact ⟨(by show 1 ≤ 1000; decide),kE (fun z => by have:=z.1; omega) H1 SD⟩
  have h1:¬ (7:Int) < (ws.length:Int):=h1
  refine ⟨_,rfl,D,rfl,⟨_,SqL.of qD⟩,?_⟩
  refine ZaE (xs:=ws.map V.str) (fun i ys H' => Same H1 H' ∧ AlG (fun (w:Str) v => Rdn p w.cps.toList H' v) (ws.take i) ys) (by rw [List.length_map]; omega) ⟨Same.refl _,AlG.nil⟩ ?_ ?_ ?_
  · rintro i ys H2 - ⟨S2,_⟩
    exact SqL.of (S2 _ _ qD)
  · rintro i x ys H2 hx hy ⟨S2,al⟩
    rw [List.getElem?_map] at hx
    cases hh:ws[i]? with
    | none => rw [hh] at hx; cases hx
    | some wd =>
    rw [hh] at hx
    obtain rfl:V.str wd = x:=Option.some.inj hx
    have mw:=List.mem_of_getElem? hh
    refine ⟨_,rfl,_,rfl,kk,p,_,rfl,hk.same (SD.trans S2),.inl ⟨wd,rfl,short wd mw⟩,fun nor H3 S3 => kE (fun z => z.2 wd mw (nor wd rfl)) H3 (SD.trans (S2.trans S3)),fun z' ez H3 v' S3 rd => ?_⟩
    obtain rfl:wd = z':=V.str.inj ez
    exact ⟨S2.trans S3,(al.mono fun _ _ q => q.same S3).step hh rd⟩
  · rintro ys H2 hy ⟨S2,al⟩
    rw [List.length_map,List.take_length] at al
    intro D2 nD2
    refine k ⟨by omega,fun wd hw nor => ?_⟩ _ D2 ys (SD.trans (S2.trans (Zak nD2 _))) ?_ Zaf (al.mono fun _ _ q => q.same (Zak nD2 _))
    · obtain ⟨y,_,rd⟩:=al.of_mem hw
      exact nor.rdn rd
    · cases q:H D2 with
      | none => rfl
      | some o => rw [(SD.trans S2) _ _ q] at nD2; cases nD2
theorem sc_read_table:FnScope ["kind", "text", "parts", "rows"] ["kind", "text"] (Zag Zbv):=⟨rfl,rfl,rfl,by decide +kernel,rfl,by decide +kernel,by decide +kernel⟩
theorem ZdI (h:Here K mg "read_table" Zbv) (T:Nm mg) (Ta:mg "all" = none) (Tm:∃ t,mg "MOST" = some (.int 7 t)) (c_NoText:ExcC K mg "NoText" cX) (h_need_text:HasX P w K mg base "need_text" 5 ["text"] (Zby K cX)) (h_read_row:HasX P w K mg base "read_row" 5 ["kind", "text"] (ZcV CF CR cX)):HasX P w K mg base "read_table" 6 ["kind", "text"] (Zb1 K CF CR cX):=by
  refine h.hasX (fun f fd F => F.binds fun _ _ _ _ _ _ us hl => by obtain ⟨_,_,rfl⟩:=Zdu hl; exact rfl) fun f fd F => F.okx sc_read_table (fun vs H Q E h => ?_) (fun cdv A outer s H vs Q E hr h => ?_)
  · obtain ⟨_,_,_,rfl,_⟩:=h
    rfl
  obtain ⟨kk,p,v,rfl,hk,tv,kE,k⟩:=h
  obtain ⟨tm,Tm⟩:=Tm
  have nd:=sc_read_table.nd
  refine ⟨_,(Zab (Zcz (Za0 h_need_text Zdt hr (by rfl) (Zaa (pv 1) Zac)))
    (Zab (Zaq (i:=2) nd rfl (Or.inl rfl) (ZbT PySem.F.plainAttrs_str PySem.F.slot_str_split PySem.F.type_str_split ZbE (pv 1) (Zaa Zax Zac)))
    (Zab (Zau (Zai ZbL (Zah Zao (by rfl) T.len boot_len (Zaa (pv 2) Zac)) (ZaH (v:=.int 7) (by rfl) Tm ⟨_,rfl⟩) (Zam _)) (Zae (ZaX c_NoText ZbF rfl (by rfl) (Zaa Zax Zac))) Zaj)
    (Zab (Zaq (i:=3) nd rfl (Or.inr rfl) (Ze6 ["part"] [(0, "kind")] (ZaF (pv 2)) (by exact fun _ _ _ _ => (Zaw (i:=0) (show (["part", "kind"]:List Str).Nodup by decide +kernel) rfl (Or.inl rfl))) (by exact fun _ _ _ _ => (Za0 h_read_row ZiB hr (by rfl) (Zaa (pv 1) (Zaa (pv 0) Zac)))) ⟨⟨rfl,rfl,Or.inl rfl⟩,trivial⟩))
    (Zab (Zau (ZaQ (ZaN (Zah (Ze0 rfl) (by rfl) Ta PyProof.Rows.Boot.all (Zaa (Zbc ["row"] [(3, "rows")] rfl (ZaF (pv 3)) (by exact fun _ _ _ _ => (Zaw (i:=0) (show (["row", "rows"]:List Str).Nodup by decide +kernel) rfl (Or.inl rfl))) (by exact fun _ _ _ _ => (Zbk Za3 (Zah (ZaP K rfl) (by rfl) T.len boot_len (Zaa (pv 0) Zac)) (Zah (ZaP K rfl) (by rfl) T.len boot_len (Zaa (ZaI (ZgV K rfl) (pv 1) Zad (fun _ _ => rfl)) Zac)) (Zam _))) ⟨⟨rfl,rfl,Or.inl rfl⟩,trivial⟩) Zac)))) (Zae (ZaX c_NoText ZbF rfl (by rfl) (Zaa Zax Zac))) Zaj)
    (Zae (Zal (pv 3)))))))),?_⟩
  have s9:20002 ≤ sizeLine:=by decide
  refine ⟨_,rfl,v,rfl,tv,fun n => kE (fun z e => absurd e (n z)) H (Same.refl _),?_⟩
  rintro ⟨z,rfl⟩
  have zl:z.length ≤ 20000:=by
    rcases tv with ⟨z',e,l⟩ | ⟨Ty,ty,kit⟩
    · cases e; exact l
    · cases ty with
      | of ty =>
        cases ty with
        | str => rw [ZaD K _] at kit; cases kit
  have kE:=fun (n:¬ Zfy p z) => kE (fun z' e => by cases e; exact n)
  have k:=k z rfl
  refine ⟨_,rfl,rfl,_,_,rfl,rfl,(by decide +kernel),by omega,fun D nD => ?_⟩
  have short:∀ a ∈ Txt.split z "; ", a.length ≤ 20000:=fun a ha => Nat.le_trans (part_short ha) zl
  have ne0:Txt.split z "; " ≠ []:=Ze8 z (by decide +kernel)
  have rdt:∀ {H' t rs R},H' t = some (.lst (rs.map V.ref)) → AlG (fun r row => H' r = some (.lst row)) rs R → AlG (fun q row => RdR p q H' row) (Txt.split z "; ") R → RdT p z H' t rs R:=fun a b c => ⟨a,b,c⟩
  have kE:¬ ((Txt.split z "; ").length ≤ 7 ∧ (∀ q ∈ Txt.split z "; ", Zcf p q) ∧ ∃ m,∀ q ∈ Txt.split z "; ", (Txt.split q " ").length = m) → ∀ H',Same H H' → E (.ref cX) none H':=kE
  have k:((Txt.split z "; ").length ≤ 7 ∧ (∀ q ∈ Txt.split z "; ", Zcf p q) ∧ ∃ m,∀ q ∈ Txt.split z "; ", (Txt.split q " ").length = m) → ∀ H' t rs R,Same H H' → RdT p z H' t rs R → rs.Nodup → (∀ r ∈ rs,H r = none) → t ∉ rs → Q (.ref t) H':=k
  generalize Txt.split z "; " = ps at *
  have SD:=Zak nD (.lst (ps.map V.str))
  have qD:=Zaf (H:=H) (a:=D) (o:=.lst (ps.map V.str))
  generalize upd H D _ = H1 at *
  refine ⟨_,rfl,D,_,rfl,.inl (SqL.of qD),_,_,rfl,rfl,_,rfl,?_⟩
  rw [List.length_map]
  refine Zar (fun h1 => ?_) (fun h1 => ?_)
  · have h1:(7:Int) < (ps.length:Int):=h1
    exact ⟨(by show 1 ≤ 1000; decide),kE (fun z => by have:=z.1; omega) H1 SD⟩
  have h1:¬ (7:Int) < (ps.length:Int):=h1
  refine ⟨_,rfl,D,rfl,⟨_,SqL.of qD⟩,?_⟩
  refine ZaE (xs:=ps.map V.str) (fun i ys H' => Same H1 H' ∧ ∃ (rs:List Addr) (R:List (List V)),ys = rs.map V.ref ∧ AlG (fun r row => H' r = some (.lst row)) rs R ∧ AlG (fun q row => RdR p q H' row) (ps.take i) R ∧ rs.Nodup ∧ (∀ r ∈ rs,H r = none) ∧ ∀ q ∈ ps.take i,Zcf p q) (by rw [List.length_map]; omega) ⟨Same.refl _,[],[],rfl,AlG.nil,AlG.nil,List.nodup_nil,fun r hr => absurd hr (by simp),fun r hr => absurd hr (by simp)⟩ ?_ ?_ ?_
  · rintro i ys H2 - ⟨S2,_⟩
    exact SqL.of (S2 _ _ qD)
  · rintro i x ys H2 hx hy ⟨S2,rs,R,rfl,a1,a2,n1,n2,n3⟩
    rw [List.getElem?_map] at hx
    cases hh:ps[i]? with
    | none => rw [hh] at hx; cases hx
    | some pt =>
    rw [hh] at hx
    obtain rfl:V.str pt = x:=Option.some.inj hx
    have mp:=List.mem_of_getElem? hh
    have S02:=SD.trans S2
    refine ⟨_,rfl,_,rfl,kk,p,pt,rfl,hk.same S02,short pt mp,fun nr H3 S3 => kE (fun z => nr (z.2.1 pt mp)) H3 (S02.trans S3),fun ok H3 D3 row S3 nD3 qD3 rr => ?_⟩
    refine ⟨S2.trans S3,rs ++ [D3],R ++ [row],by rw [List.map_append]; rfl,(a1.mono fun _ _ q => S3 _ _ q).snoc qD3,(a2.mono fun _ _ q => q.same S3).step hh rr,?_,fun r hr => ?_,fun q hq => ?_⟩
    · rw [List.nodup_append]
      refine ⟨n1,by simp,fun a ha b hb => ?_⟩
      rw [List.mem_singleton.mp hb]
      rintro rfl
      obtain ⟨row',_,q⟩:=a1.of_mem ha
      rw [nD3] at q; cases q
    · rcases List.mem_append.mp hr with hr | hr
      · exact n2 r hr
      · rw [List.mem_singleton.mp hr]
        cases q:H D3 with
        | none => rfl
        | some o => rw [S02 _ _ q] at nD3; cases nD3
    · rw [List.take_add_one,hh] at hq
      rcases List.mem_append.mp hq with hq | hq
      · exact n3 q hq
      · rw [List.mem_singleton.mp hq]; exact ok
  rintro ys H2 hy ⟨S2,rs,R,rfl,a1,a2,n1,n2,n3⟩
  rw [List.length_map,List.take_length] at a2 n3
  intro t nt
  have ntr:t ∉ rs:=fun hm => by
    obtain ⟨row,_,q⟩:=a1.of_mem hm
    rw [nt] at q; cases q
  have St:=Zak nt (.lst (rs.map V.ref))
  have qt:=Zaf (H:=H2) (a:=t) (o:=.lst (rs.map V.ref))
  generalize upd H2 t _ = H3 at *
  have a1:=a1.mono fun _ _ q => St _ _ q
  have a2:=a2.mono fun _ _ q => RdR.same q St
  have S03:=SD.trans (S2.trans St)
  have l1:=a1.1
  have l2:=a2.1
  obtain ⟨q0,pr,rfl⟩:∃ q0 pr,ps = q0 :: pr:=by
    cases ps with
    | nil => exact absurd rfl ne0
    | cons a b => exact ⟨a,b,rfl⟩
  obtain ⟨row0,hr0,rd0⟩:=a2.get (i:=0) rfl
  obtain ⟨r0,hr0',q0'⟩:=a1.getR hr0
  refine ⟨_,rfl,t,rfl,⟨_,SqL.of qt⟩,?_⟩
  refine ZaE (xs:=rs.map V.ref) (fun i ys H' => H3 = H' ∧ ys = ((R.take i).map fun row => decide (row.length = row0.length)).map V.bl) (by rw [List.length_map]; simp only [List.length_cons] at *; omega) ⟨rfl,rfl⟩ ?_ ?_ ?_
  · rintro i ys _ - ⟨rfl,_⟩
    exact SqL.of qt
  · rintro i x ys _ hx hy ⟨rfl,rfl⟩
    rw [List.getElem?_map] at hx
    cases hh:rs[i]? with
    | none => rw [hh] at hx; cases hx
    | some r =>
    rw [hh] at hx
    obtain rfl:V.ref r = x:=Option.some.inj hx
    obtain ⟨row,hrow,hr'⟩:=a1.get hh
    refine ⟨_,rfl,r,_,rfl,.inl (SqL.of hr'),_,rfl,t,_,_,_,rfl,rfl,SqL.of qt,ZaA (j:=0) (by rw [List.getElem?_map,hr0']; rfl),r0,_,rfl,.inl (SqL.of q0'),rfl,rfl,?_⟩
    rw [List.take_add_one,hrow,List.map_append,List.map_append]
    refine congrArg (_ ++ ·) ?_
    show [V.bl _] = [V.bl _]
    rw [show decide (V.int (row.length:Int) = V.int (row0.length:Int)) = decide (row.length = row0.length) from by
      rw [Bool.eq_iff_iff,decide_eq_true_iff,decide_eq_true_iff]
      exact ⟨fun e => by have:=V.int.inj e; omega,fun e => by rw [e]⟩]
  rintro ys _ hy ⟨rfl,rfl⟩
  rw [List.length_map,l1,List.take_length]
  refine fun B nB => ⟨B,_,rfl,SqL.of Zaf,_,rfl,?_⟩
  have SB:=Zak nB (.lst ((R.map fun row => decide (row.length = row0.length)).map V.bl))
  generalize upd H3 B _ = H4 at *
  have S04:=S03.trans SB
  have lens:∀ {j:Nat} {q row},(q0 :: pr)[j]? = some q → R[j]? = some row → (Txt.split q " ").length = row.length:=fun hq hr => (a2.2 _ _ _ hq hr).1
  have eb:((R.map fun row => decide (row.length = row0.length)).all id = true) ↔ ∀ row ∈ R,row.length = row0.length:=by
    rw [List.all_map,List.all_eq_true]
    exact ⟨fun h c hc => of_decide_eq_true (h c hc),fun h c hc => decide_eq_true (h c hc)⟩
  generalize (R.map fun row => decide (row.length = row0.length)).all id = b at *
  cases b with
  | false =>
    refine Zb5 ⟨(by show 1 ≤ 1000; decide),kE (fun z => ?_) H4 S04⟩
    obtain ⟨_,_,m,hm⟩:=z
    have:(false = true):=eb.mpr fun row hrow => by
      obtain ⟨i,hi⟩:=List.getElem?_of_mem hrow
      obtain ⟨q,hq,_⟩:=a2.getR hi
      rw [← lens hq hi,hm q (List.mem_of_getElem? hq),← lens (j:=0) rfl hr0,hm q0 (.head _)]
    cases this
  | true =>
    have he:=eb.mp rfl
    refine Zcj ⟨_,rfl,k ⟨by omega,n3,row0.length,fun q hq => ?_⟩ H4 t rs R S04 (rdt (SB _ _ qt) (a1.mono fun _ _ q => SB _ _ q) (a2.mono fun _ _ q => RdR.same q SB)) n1 n2 ntr⟩
    obtain ⟨i,hi⟩:=List.getElem?_of_mem hq
    obtain ⟨row,hrow,_⟩:=a2.get hi
    rw [lens hi hrow,he row (List.mem_of_getElem? hrow)]
end
end My
namespace My
open PySem L2 PyProof.Rows
section
variable {P:Program} {w:World} {K:PySem.W.Frag} {mg:Str → Option Value} {base:Heap} {CF CR cX:Addr}
theorem Zfz:FnScope ["_law_prime_here", "_law_number"] ["_law_prime_here", "_law_number"] (Zag ZcQ):=⟨rfl,rfl,rfl,by decide +kernel,rfl,by decide +kernel,by decide +kernel⟩
def Zdk:Sp:=fun vs H Q _ => ∃ (p:Int) (v:V),vs = [.int p,v] ∧ PK p ∧ Nu H p v ∧ ∀ z,ShV H p v z → z.length ≤ 200 → Q (.str z) H
theorem ZfA (h:Here K mg "_law_shown" ZcQ) (Ts:mg "str" = none):Has P w K mg base "_law_shown" 1 ["_law_prime_here", "_law_number"] Zdk:=by
  refine h.has (fun f fd F => F.binds fun _ _ _ _ _ _ us hl => by obtain ⟨_,_,rfl⟩:=Zdu hl; exact rfl) fun f fd F => F.ok Zfz (fun vs H Q E h => ?_) (fun cdv A outer s H vs Q E hr h => ?_)
  · obtain ⟨_,_,rfl,_⟩:=h
    rfl
  obtain ⟨p,v,rfl,pk,nu,k⟩:=h
  refine ⟨_,(Zab (Zau (Zai ZbL (pv 0) Zad (Zam _)) (Zae (Zal (ZaG ZaL (by rfl) Ts boot_str (Zaa (pv 1) Zac)))) Zaj)
    (Zab (Zau (Zai Za3 (ZaI Zci (pv 1) Zad (fun _ _ => rfl)) Zad (Zam _)) (Zae (Zal (ZaG ZaL (by rfl) Ts boot_str (Zaa (ZaI Zci (pv 1) Zad (fun _ _ => rfl)) Zac)))) Zaj)
    (Zae (Zal (Zap ZaT (Zap ZaT (ZaG ZaL (by rfl) Ts boot_str (Zaa (ZaI Zci (pv 1) Zad (fun _ _ => rfl)) Zac)) Zax) (ZaG ZaL (by rfl) Ts boot_str (Zaa (ZaI Zci (pv 1) Zad (fun _ _ => rfl)) Zac))))))),?_⟩
  refine ⟨_,rfl,_,_,rfl,rfl,_,rfl,?_⟩
  rcases nu with ⟨p0,t,a,b,rfl,ht,fc,la,lb⟩ | ⟨p0,x,rfl,x0,x1⟩
  · refine Zar (fun z => absurd (show (0:Int) < p from z) (by omega)) (fun _ => ?_)
    have s2:200 ≤ sizeLine:=by decide
    have l1:=ZbZ la
    have l2:=ZbZ lb
    refine ⟨_,rfl,t,_,_,_,rfl,rfl,SqT.of ht,ZaA (j:=1) rfl,rfl,_,rfl,?_⟩
    refine ZaS (fun b1 => ?_) (fun b1 => ?_)
    · refine ⟨_,rfl,t,_,_,_,rfl,rfl,SqT.of ht,ZaA (j:=0) rfl,a,rfl,Zek la,k _ (.inr ⟨p0,t,a,b,rfl,ht,?_⟩) (Nat.le_trans l1 (by decide))⟩
      unfold shN; rw [if_pos b1]
    · refine ⟨_,rfl,t,_,_,_,rfl,rfl,SqT.of ht,ZaA (j:=0) rfl,a,rfl,Zek la,_,_,rfl,rfl,?_,_,rfl,t,_,_,_,rfl,rfl,SqT.of ht,ZaA (j:=1) rfl,b,rfl,Zek lb,_,_,rfl,rfl,?_,k _ (.inr ⟨p0,t,a,b,rfl,ht,?_⟩) ?_⟩
      · show _ + 1 ≤ sizeLine; omega
      · rw [Zas]; show _ + 1 + _ ≤ sizeLine; omega
      · unfold shN; rw [if_neg b1]; rfl
      · rw [Zas,Zas]; show _ + 1 + _ ≤ 200; omega
  · refine Zar (fun _ => ?_) (fun z => absurd p0 z)
    rcases pk with z | ⟨_,pl⟩
    · omega
    have lx:x.natAbs ≤ 10 ^ 60:=Nat.le_trans (show x.natAbs ≤ 1000000 by omega) (by decide)
    exact ⟨_,rfl,x,rfl,Zek lx,k _ (.inl ⟨p0,x,rfl,rfl⟩) (Nat.le_trans (ZbZ lx) (by decide))⟩
theorem Zho {α:Type} {xs:List α} (h:0 < xs.length) (a:Int):∃ x,atI xs (a.fmod (xs.length:Int)) = some x ∧ x ∈ xs:=by
  rw [Int.fmod_eq_emod_of_nonneg _ (by omega)]
  have f1:=Int.emod_nonneg a (show (xs.length:Int) ≠ 0 by omega)
  have f2:=Int.emod_lt_of_pos a (show (0:Int) < (xs.length:Int) by omega)
  obtain ⟨n,e⟩:∃ n:Nat,a % (xs.length:Int) = (n:Int):=⟨(a % (xs.length:Int)).toNat,by omega⟩
  rw [e] at f2 ⊢
  have hn:n < xs.length:=by omega
  exact ⟨xs[n],ZaA (List.getElem?_eq_getElem hn),List.getElem_mem hn⟩
end
section
variable {P:Program} {w:World} {K:PySem.W.Frag} {mg:Str → Option Value} {base:Heap} {CF CR cX:Addr}
theorem sc_l_figures:FnScope ["_law_text_here", "_law_sign"] ["_law_text_here"] (Zag ZbQ):=⟨rfl,rfl,rfl,by decide +kernel,rfl,by decide +kernel,by decide +kernel⟩
def ovN:Option Nat → V
  | some n => .int (n:Int)
  | none => .non
def Zcn:Sp:=fun vs H Q _ => ∃ z:Str,vs = [.str z] ∧ z.length ≤ 20000 ∧ Q (ovN (fg z.cps.toList)) H
theorem Zem (h:Here K mg "_law_figures" ZbQ) (T:Nm mg):Has P w K mg base "_law_figures" 1 ["_law_text_here"] Zcn:=by
  refine h.has (fun f fd F => F.binds fun _ _ _ _ _ _ us hl => by obtain ⟨_,rfl⟩:=ZfD hl; exact rfl) fun f fd F => F.ok sc_l_figures (fun vs H Q E h => ?_) (fun cdv A outer s H vs Q E hr h => ?_)
  · obtain ⟨_,rfl,_⟩:=h
    rfl
  obtain ⟨z,rfl,zl,k⟩:=h
  have nd:=sc_l_figures.nd
  refine ⟨_,(Zab (Zau (ZbK (Zai Za3 (pv 0) Zax (Zam _)) (ZbK (Zai ZbL (Zah ZaZ (by rfl) T.len boot_len (Zaa (pv 0) Zac)) Zad (Zam _)) (Zbf (Zc7 (Zai ZbL (Zah ZaZ (by rfl) T.len boot_len (Zaa (pv 0) Zac)) Zad (Zam _)) (Zb2 (Zai Za3 (ZaI ZfZ (pv 0) Zad (fun _ _ => rfl)) Zax (Zam _)))).pt))).pt (Zae (Zal ZaM)) Zaj)
    (Zab (ZcA PassesOwn.never rfl (Zhh (pv 0)) (Zaw (i:=1) nd rfl (Or.inl rfl)) (Zae (Zau (Zai ZdN (pv 1) Zax (by rfl)) (Zae (Zal ZaM)) Zaj)))
    (Zae (Zal (ZaG ZbX (by rfl) T.int boot_int (Zaa (pv 0) Zac)))))),?_⟩
  have hl:=len_list z
  have s9:20000 ≤ sizeLine:=by decide
  have no:¬ Fg z.cps.toList → Q .non H:=fun f => by rw [ZhX f] at k; exact k
  refine ⟨_,rfl,rfl,_,rfl,?_⟩
  refine Zar (fun h1 => Zb5 (no fun f => ?_)) (fun h1 => ?_)
  · rw [V.str.inj h1] at f
    exact absurd f.a (by decide +kernel)
  refine ⟨_,rfl,z,rfl,by omega,_,_,rfl,rfl,_,rfl,?_⟩
  refine Zar (fun h2 => Zb5 (no fun f => ?_)) (fun h2 => ?_)
  · have h2:(60:Int) < (z.length:Int):=h2
    have:=f.b
    omega
  have h2:¬ (60:Int) < (z.length:Int):=h2
  obtain ⟨c0,r,e0⟩:∃ c0 r,z.cps.toList = c0 :: r:=by
    cases h:z.cps.toList with
    | nil => exact absurd (congrArg V.str (Str.of_list (by rw [h]; rfl))) h1
    | cons a r => exact ⟨a,r,rfl⟩
  have ez:∀ (c:Nat),(V.str ⟨#[c]⟩ = V.str "0") ↔ c = 48:=fun c => ⟨fun e => by
    have e:=V.str.inj e
    have:=congrArg (fun s:Str => s.cps.toList) e
    have e2:("0" : Str).cps.toList = [48]:=by decide +kernel
    rw [e2] at this
    simpa using this,fun e => by subst e; exact congrArg V.str (by decide +kernel)⟩
  refine ZhZ (C:=Zh6 _ _ _ _) (decide (1 < z.length ∧ c0 = 48)) H (fun R hR => ?_) ?_
  · refine ⟨_,rfl,z,rfl,by omega,_,_,rfl,rfl,_,rfl,?_⟩
    refine Zar (fun h3 => ?_) (fun h3 => ?_)
    · have h3:(1:Int) < (z.length:Int):=h3
      refine ⟨_,rfl,z,0,c0,rfl,rfl,by omega,(by rw [e0]; exact ZaA (j:=0) rfl),rfl,_,rfl,?_⟩
      rw [show decide (V.str ⟨#[c0]⟩ = V.str "0") = decide (1 < z.length ∧ c0 = 48) from by
        rw [Bool.eq_iff_iff,decide_eq_true_iff,decide_eq_true_iff,ez]
        exact ⟨fun e => ⟨by omega,e⟩,fun e => e.2⟩]
      exact hR
    · have h3:¬ (1:Int) < (z.length:Int):=h3
      rw [decide_eq_false (by omega)] at hR
      exact hR
  refine Zar (fun h3 => no fun f => ?_) (fun h3 => ?_)
  · have:=f.d (by rw [e0,h3.2]; rfl)
    rw [this] at hl
    have:z.length = 1:=hl
    omega
  refine ⟨_,rfl,z,rfl,?_⟩
  refine ZhR (fun i σ H' => ∃ o,σ = [some (V.str z),o] ∧ H' = H ∧ ∀ c ∈ z.cps.toList.take i,c ∈ ZgB) ⟨_,rfl,rfl,fun c hc => absurd hc (by simp)⟩ ?_ ?_
  · rintro i c σ _ hc ⟨o,rfl,rfl,hf⟩
    refine ⟨_,rfl,_,_,rfl,rfl,_,rfl,?_⟩
    rw [StrLaws.found_one,Zfc]
    refine ZaJ (fun h4 => no fun f => h4 (f.c c (List.mem_of_getElem? (show z.cps.toList[i]? = some c by simpa using hc)))) (fun h4 => ⟨_,rfl,rfl,fun d hd => ?_⟩)
    rw [List.take_add_one,show z.cps.toList[i]? = some c by simpa using hc] at hd
    rcases List.mem_append.mp hd with hd | hd
    · exact hf d hd
    · rw [List.mem_singleton.mp hd]; exact h4
  · rintro σ _ ⟨o,rfl,rfl,hf⟩
    rw [List.take_of_length_le (by simp)] at hf
    have f:Fg z.cps.toList:=⟨by rw [e0]; exact Nat.succ_le_succ (Nat.zero_le _),by omega,hf,fun e => by
      rw [e0] at e ⊢
      have ec:c0 = 48:=by simpa using e
      have:r.length = 0:=by
        rw [e0] at hl
        have hl:z.length = r.length + 1:=hl
        have:¬ (1 < z.length):=fun q => h3 ⟨q,ec⟩
        omega
      rw [List.length_eq_zero_iff.mp this,ec]⟩
    rw [Zhj f] at k
    exact ⟨_,rfl,z,_,rfl,by omega,Zgs f,k⟩
end
end My
namespace My
open PySem L2 PyProof.Rows
theorem ZeK {i:Nat} {x:V} {σ:L2.St} {H:Hp} {t u:TS} {D:Ends} {rt:VK} {bk ct:L2.St → Hp → Prop} (h:Zht t u D (σ.set i (some x)) H):Zb3 i x σ H (Ends.nx ⟨Zht t u D,rt,bk,ct⟩):=h
theorem ZiJ {c:TT} {t u v:TS} {D:Ends} {rt:VK} {bk ct:L2.St → Hp → Prop} {σ:L2.St} {H:Hp} (h:c σ H fun b H1 => if b = true then t { D with nx:=v D } σ H1 else u { D with nx:=v D } σ H1):Zh7 ⟨Zht (ZiU c t u) v D,rt,bk,ct⟩ σ H:=h
theorem ZiK {c:TT} {t u v:TS} {D:Ends} {rt:VK} {bk ct:L2.St → Hp → Prop} {σ:L2.St} {H:Hp} (h:c σ H fun b H1 => if b = true then t { D with nx:=v D } σ H1 else u { D with nx:=v D } σ H1):Ends.nx ⟨Zht (ZiU c t u) v D,rt,bk,ct⟩ σ H:=h
theorem ZeL {t u:TS} {D:Ends} {σ:L2.St} {H:Hp} (N:L2.St → Hp → Prop) (h1:∀ N':L2.St → Hp → Prop,(∀ σ H,N σ H → N' σ H) → t { D with nx:=N' } σ H) (h2:∀ σ H,N σ H → u D σ H):Zht t u D σ H:=h1 _ h2
def Bdy (z b:Str) (neg:Bool):Prop:=(neg = true ∧ z.cps.toList = 45 :: b.cps.toList) ∨ (neg = false ∧ z.cps.toList.head? ≠ some 45 ∧ b = z)
theorem Bdy.ne {z b:Str} {neg:Bool} (h:Bdy z b neg):(!decide (V.str b = V.str z)) = neg:=by
  rcases h with ⟨rfl,e⟩ | ⟨rfl,_,rfl⟩
  · rw [decide_eq_false (fun q => by
      have:=V.str.inj q
      rw [this] at e
      have:=congrArg List.length e
      simp at this)]; rfl
  · simp
theorem Bdy.len {z b:Str} {neg:Bool} (h:Bdy z b neg):b.length ≤ z.length:=by
  rcases h with ⟨rfl,e⟩ | ⟨rfl,_,rfl⟩
  · rw [L2.len_list,L2.len_list,e]; exact Nat.le_succ _
  · exact Nat.le_refl _
noncomputable def sgN (neg:Bool) (o:Option Nat):Option Int:=match neg,o with
  | true,some (n + 1) => some (-((n + 1:Nat):Int))
  | true,_ => none
  | false,some n => some (n:Int)
  | false,none => none
theorem Bdy.fr {z b:Str} {neg:Bool} (h:Bdy z b neg) {a:List Nat} {t:List (List Nat)} (e:spl 47 b.cps.toList = a :: t):∃ a',spl 47 z.cps.toList = a' :: t ∧ wh a' = sgN neg (fg a):=by
  rcases h with ⟨rfl,ez⟩ | ⟨rfl,nh,rfl⟩
  · refine ⟨45 :: a,by rw [ez]; exact Zcv (by decide) e,?_⟩
    unfold wh
    rw [if_pos (show (45 :: a).head? = some 45 from rfl)]
    show (match fg a with | some (n + 1) => _ | _ => _) = _
    cases fg a with
    | none => rfl
    | some n => cases n <;> rfl
  · refine ⟨a,e,?_⟩
    have na:¬ a.head? = some 45:=fun q => nh (by
      cases hz:b.cps.toList with
      | nil => rw [hz] at e; cases e; cases q
      | cons c r =>
        rw [hz] at e
        obtain ⟨h',t',e'⟩:=Ze2 47 r
        by_cases hc:c = 47
        · rw [hc] at e
          have:spl 47 (47 :: r) = [] :: spl 47 r:=ZeC (p:=[]) r (by simp)
          rw [this] at e
          cases e; cases q
        · rw [Zcv hc e'] at e
          cases e
          exact q)
    unfold wh
    rw [if_neg na]
    cases fg a <;> rfl
theorem ZiL (ns:List (Option Nat)):inV .non (ns.map ovN) = decide (none ∈ ns):=by
  induction ns with
  | nil => rfl
  | cons o r ih =>
    show (eqV (ovN o) .non || inV .non (r.map ovN)) = _
    rw [ih]
    cases o with
    | none => simp [ovN,eqV]
    | some n => simp [ovN,eqV]
theorem Zg6 (ns:List (Option Nat)):(ns.map ovN).all Zdp = true:=by
  rw [List.all_eq_true]
  intro v hv
  obtain ⟨o,_,rfl⟩:=List.mem_map.mp hv
  cases o <;> rfl
theorem TxtV.len {K:PySem.W.Frag} {H:Hp} {z:Str} (h:TxtV K H (.str z)):z.length ≤ 20000:=by
  rcases h with ⟨z',e,l⟩ | ⟨Ty,ty,kit⟩
  · cases e; exact l
  · cases ty with
    | of ty =>
      cases ty with
      | str => rw [ZaD K _] at kit; cases kit
end My
namespace My
open PySem L2 PyProof.Rows
theorem Zg7 {i j:Nat} {x v:V} {σ:L2.St} {H:Hp} {u:TS} {D:Ends} {rt:VK} {bk ct:L2.St → Hp → Prop} (C:V → Prop) (h:∀ w,C w → u D ((σ.set i (some x)).set j (some w)) H) (c:C v):Zb3 i x σ H (Ends.nx ⟨Zht (ZiN (tC v) (Zb3 j)) u D,rt,bk,ct⟩):=h v c
def Zdl:Sp:=fun vs H Q _ => ∃ (p:Int) (z:Str),vs = [.int p,.str z] ∧ PK p ∧ z.length ≤ 20000 ∧ (Nor p z.cps.toList → ∀ H',Same H H' → Q .non H') ∧ ∀ H' v',Same H H' → Rdn p z.cps.toList H' v' → Q v' H'
def Zen (K:PySem.W.Frag):Sp:=fun vs H Q _ => ∃ (p:Int) (t:Addr) (rs:List Addr) (R:List (List V)),vs = [.int p,.ref t] ∧ PK p ∧ RTb H p t rs R ∧ R.length ≤ 8 ∧ (∀ row ∈ R,row.length ≤ 8) ∧ ∀ H' z,Same H H' → ShT H p R z → z.length ≤ 9000 → Q (.str z) H'
def Zeo:Sp:=fun vs H Q _ => ∃ (p:Int) (c:Addr) (cs:List Int) (a:Nat),vs = [.int p,.ref c,.int (a:Int)] ∧ PK p ∧ Ce H c cs ∧ a < cs.length ∧ ∀ (H':Hp) (t:Addr) (rs:List Addr) (R:List (List V)),Same H H' → RTb H' p t rs R → R.length ≤ 8 → (∀ row ∈ R,row.length ≤ 8) → Q (.ref t) H'
def ZbG (K:PySem.W.Frag):Sp:=fun vs H Q _ => ∃ (z:Str) (c:Int),vs = [.str z,.int c] ∧ z.length ≤ 9000 ∧ ∀ H' v,Same H H' → TxtV K H' v → Q v H'
def ZbR (K:PySem.W.Frag):Sp:=fun vs H Q _ => ∃ (p:Int) (v:V),vs = [.int p,v] ∧ PK p ∧ TxtV K H v ∧ ((∀ z,v = .str z → ¬ Zfy p z) → ∀ H',Same H H' → Q .non H') ∧ ∀ z,v = .str z → Zfy p z → ∀ H' t rs R,Same H H' → RdT p z H' t rs R → Q (.ref t) H'
theorem Zgu (xs:List V) (n:Nat):ZfC xs none (some (n:Int)) = xs.take n:=by
  unfold ZfC
  rw [HT.sIx_none,List.drop_zero,Nat.sub_zero]
  rw [HT.sIx_nat,Nat.min_def]
  split
  · rfl
  · rw [List.take_of_length_le (Nat.le_refl _),List.take_of_length_le (by omega)]
theorem Zgv (xs:List V) (n:Nat):ZfC xs (some (n:Int)) none = xs.drop n:=by
  unfold ZfC
  rw [HT.sIx_none,HT.sIx_nat]
  by_cases h:n ≤ xs.length
  · rw [Nat.min_eq_left h,List.take_of_length_le]
    rw [List.length_drop]
    omega
  · rw [Nat.min_eq_right (by omega),List.drop_of_length_le (by omega),List.drop_of_length_le (by omega)]
    simp
theorem AlG.set {α β:Type} {R:α → β → Prop} {xs:List α} {ys:List β} {x:α} {y:β} {j:Nat} (h:AlG R xs ys) (r:R x y):AlG R (xs.set j x) (ys.set j y):=by
  refine ⟨by rw [List.length_set,List.length_set,h.1],fun i a b ha hb => ?_⟩
  rw [List.getElem?_set] at ha hb
  by_cases e:j = i
  · rw [if_pos e] at ha hb
    split at ha
    · split at hb
      · cases ha; cases hb; exact r
      · cases hb
    · cases ha
  · rw [if_neg e] at ha hb
    exact h.2 i a b ha hb
end My
namespace My
open PySem L2 PyProof.Rows
section
variable {P:Program} {w:World} {K:PySem.W.Frag} {mg:Str → Option Value} {base:Heap} {CF CR cX:Addr}
theorem sc_l_ntold:FnScope ["_law_prime_here", "_law_text_here", "_law_body", "_law_halves", "_law_numbers", "_law_bottom"] ["_law_prime_here", "_law_text_here"] (Zag Zba):=⟨rfl,rfl,rfl,by decide +kernel,rfl,by decide +kernel,by decide +kernel⟩
theorem ZfB (h:Here K mg "_law_number_told" Zba) (T:Nm mg) (Ts:mg "str" = none) (h_l_figures:Has P w K mg base "_law_figures" 1 ["_law_text_here"] Zcn) (h_l_divisor:Has P w K mg base "_law_divisor" 1 ["_law_one", "_law_other"] Zbi):Has P w K mg base "_law_number_told" 2 ["_law_prime_here", "_law_text_here"] (Zdl):=by
  refine h.has (fun f fd F => F.binds fun _ _ _ _ _ _ us hl => by obtain ⟨_,_,rfl⟩:=Zdu hl; exact rfl) fun f fd F => F.ok sc_l_ntold (fun vs H Q E h => ?_) (fun cdv A outer s H vs Q E hr h => ?_)
  · obtain ⟨_,_,rfl,_⟩:=h
    rfl
  obtain ⟨p,z,rfl,pk,zl,kN,kY⟩:=h
  have nd:=sc_l_ntold.nd
  refine ⟨_,(Zab (Zaq (i:=2) nd rfl (Or.inl rfl) (pv 1))
    (Zab (Zau (Zc7 (Zai Za3 (pv 0) Zad (Zam _)) (Zb2 (Zai Za3 (ZaO ZbW (pv 1) Za7 (Za8 Zad)) Zax (Zam _)))).pt (Zae (Zaq (i:=2) nd rfl (Or.inl rfl) (ZaO ZbW (pv 1) (Za8 Zad) Za7))) Zaj)
    (Zab (Zaq (i:=3) nd rfl (Or.inl rfl) (Zch (Zaa (pv 2) Zac)))
    (Zab (Zau (Zai Za3 (pv 0) Zad (Zam _)) (Zae (Zaq (i:=3) nd rfl (Or.inl rfl) (ZbT PySem.F.plainAttrs_str PySem.F.slot_str_split PySem.F.type_str_split ZbE (pv 2) (Zaa Zax Zac)))) Zaj)
    (Zab (Zb9 (i:=4) ["_law_half"] [] nd rfl rfl rfl (ZaF (pv 3)) (by exact fun _ _ _ _ => (Zaw (i:=0) (show (["_law_half"]:List Str).Nodup by decide +kernel) rfl (Or.inl rfl))) (by exact fun _ _ _ _ => (Zay h_l_figures hr (by rfl) (Zaa (pv 0) Zac))) trivial)
    (Zab (Zau (ZbK (Zai Zf1 ZaM (pv 4) (by rfl)) (Zbf (Zai ZbL (Zah Zao (by rfl) T.len boot_len (Zaa (pv 4) Zac)) Zad (Zam _)))).pt (Zae (Zal ZaM)) Zaj)
    (Zab (Zau (Zai ZbL (pv 0) Zad (Zam _)) (Zab (Zau (Zai ZcZ (ZaI ZaB (pv 4) Zad (fun _ _ => rfl)) (pv 0) (Zam _)) (Zae (Zal (ZaI ZaB (pv 4) Zad (fun _ _ => rfl)))) Zaj)
      (Zae (Zal ZaM))) Zaj)
    (Zab (Zau (ZbK (Zc7 (Zai ZcC (pv 2) (pv 1) (Zam _)) (Zb2 (Zai Za3 (ZaI ZaB (pv 4) Zad (fun _ _ => rfl)) Zad (Zam _)))).pt (Zbf (Zc7 (Zai Za3 (Zah Zao (by rfl) T.len boot_len (Zaa (pv 4) Zac)) Zad (Zam _)) (Zb2 (Zai ZcZ (ZaI ZaB (pv 4) Zad (fun _ _ => rfl)) Zad (Zam _)))).pt)).pt (Zae (Zal ZaM)) Zaj)
    (Zab (Zaq (i:=5) nd rfl (Or.inl rfl) Zad)
    (Zab (Zau (Zai Za3 (Zah Zao (by rfl) T.len boot_len (Zaa (pv 4) Zac)) Zad (Zam _)) (Zae (Zaq (i:=5) nd rfl (Or.inl rfl) (ZaI ZaB (pv 4) Zad (fun _ _ => rfl)))) Zaj)
    (Zab (Zau (Zai ZcC (Zay h_l_divisor hr (by rfl) (Zaa (ZaI ZaB (pv 4) Zad (fun _ _ => rfl)) (Zaa (pv 5) Zac))) Zad (Zam _)) (Zae (Zal ZaM)) Zaj)
    (Zae (Zal (Zc9 (Zaa (Zap Zbr (ZaI ZaB (pv 4) Zad (fun _ _ => rfl)) (Zap ZcB Zad (Zap Zbr Zad (ZaG ZfR (by rfl) T.int boot_int (Zaa (Zbk ZcC (pv 2) (pv 1) (Zam _)) Zac))))) (Zaa (pv 5) Zac)))))))))))))))),?_⟩
  have s9:20002 ≤ sizeLine:=by decide
  refine ⟨_,rfl,?_⟩
  have p0:=pk.ge
  refine ZeK ?_
  refine ZeL (fun σ' H' => ∃ (b:Str) (neg:Bool),σ' = [some (.int p),some (.str z),some (.str b),none,none,none] ∧ H = H' ∧ ((p = 0 ∧ Bdy z b neg) ∨ (0 < p ∧ b = z))) (fun N' hN => ?_) ?_
  · refine ⟨_,rfl,rfl,_,rfl,?_⟩
    refine ZaS (fun e0 => ?_) (fun e0 => ?_)
    · refine ⟨_,rfl,1,rfl,z,rfl,by omega,rfl,_,rfl,?_⟩
      have et:(Txt.slice z none (some 1)).cps.toList = z.cps.toList.take 1:=ZgY z 1
      have ef:(Txt.slice z (some 1) none).cps.toList = z.cps.toList.drop 1:=Zdf z 1
      have key:(V.str (Txt.slice z none (some 1)) = V.str "-") ↔ z.cps.toList.head? = some 45:=by
        rw [Zfd]
        refine ⟨fun e => ?_,fun e => congrArg V.str (Str.of_list ?_)⟩
        · have:=V.str.inj e
          rw [this] at et
          cases hz:z.cps.toList with
          | nil => rw [hz] at et; cases et
          | cons a r =>
            rw [hz] at et
            have:([45]:List Nat) = [a]:=et
            cases this; rfl
        · rw [et]
          cases hz:z.cps.toList with
          | nil => rw [hz] at e; cases e
          | cons a r =>
            rw [hz] at e
            have:a = 45:=by simpa using e
            rw [this]; rfl
      refine Zar (fun hd => ?_) (fun hd => ?_)
      · refine ⟨_,rfl,1,rfl,z,rfl,by omega,hN _ _ ⟨_,true,rfl,rfl,.inl ⟨e0,.inl ⟨rfl,?_⟩⟩⟩⟩
        rw [ef]
        have e:=key.mp hd
        cases hz:z.cps.toList with
        | nil => rw [hz] at e; cases e
        | cons a r =>
          rw [hz] at e
          have:a = 45:=by simpa using e
          rw [this]; rfl
      · exact hN _ _ ⟨z,false,rfl,rfl,.inl ⟨e0,.inr ⟨rfl,fun e => hd (key.mpr e),rfl⟩⟩⟩
    · exact hN _ _ ⟨z,false,rfl,rfl,.inr ⟨by omega,rfl⟩⟩
  rintro _ _ ⟨b,neg,rfl,rfl,hB⟩
  refine ⟨_,rfl,(by show 1 ≤ sizeLine; decide),fun D nD => ?_⟩
  have SD:=Zak nD (.lst [.str b])
  have qD:=Zaf (H:=H) (a:=D) (o:=.lst [.str b])
  generalize upd H D _ = H1 at *
  refine ZeK ?_
  refine ZeL (fun σ' H' => ∃ (D':Addr) (hs:List Str),σ' = [some (.int p),some (.str z),some (.str b),some (.ref D'),none,none] ∧ Same H H' ∧ H' D' = some (.lst (hs.map V.str)) ∧ (∀ x ∈ hs,x.length ≤ 20000) ∧ hs.length ≤ 20002 ∧ ((p = 0 ∧ hs.map (·.cps.toList) = spl 47 b.cps.toList) ∨ (0 < p ∧ hs = [z]))) (fun N' hN => ?_) ?_
  · refine ⟨_,rfl,rfl,_,rfl,?_⟩
    refine ZaS (fun e0 => ?_) (fun e0 => ?_)
    · have bl:b.length ≤ 20000:=by
        rcases hB with ⟨_,h⟩ | ⟨_,h⟩
        · have:=h.len; omega
        · rw [h]; exact zl
      refine ⟨_,rfl,rfl,_,_,rfl,rfl,(by decide +kernel),by omega,fun D' nD' => hN _ _ ⟨D',_,rfl,SD.trans (Zak nD' _),Zaf,?_,?_,.inl ⟨e0,?_⟩⟩⟩
      · exact fun x hx => Nat.le_trans (part_short hx) bl
      · have:=StrLaws.occ_length_le b "/" 0 b.length (b.length + 1)
        unfold Txt.split
        split
        · simp
        · split
          · simp
          · rw [length_partsBetween]; omega
      · rw [Zei]; exact Zd5 b 47
    · refine hN _ _ ⟨D,[b],rfl,SD,qD,?_,by simp,.inr ⟨by omega,?_⟩⟩
      · rcases hB with ⟨h,_⟩ | ⟨_,rfl⟩
        · exact absurd h e0
        · intro x hx; rw [List.mem_singleton.mp hx]; exact zl
      · rcases hB with ⟨h,_⟩ | ⟨_,rfl⟩
        · exact absurd h e0
        · rfl
  rintro _ H2 ⟨D',hs,rfl,S2,qD',hsl,hsn,hH⟩
  clear SD qD nD
  refine ⟨_,rfl,D',rfl,⟨_,SqL.of qD'⟩,?_⟩
  have lm:(hs.map V.str).length < sizeLine:=by rw [List.length_map]; have:20003 ≤ sizeLine:=(by decide); omega
  refine Zdg (xs:=hs.map V.str) (fun i ys H' => H2 = H' ∧ ys = ((hs.take i).map fun x => fg x.cps.toList).map ovN) lm ⟨rfl,rfl⟩ ?_ ?_ ?_
  · rintro i ys _ - ⟨rfl,_⟩
    exact SqL.of qD'
  · rintro i x ys _ hx hy ⟨rfl,rfl⟩
    rw [List.getElem?_map] at hx
    cases hh:hs[i]? with
    | none => rw [hh] at hx; cases hx
    | some x' =>
    rw [hh] at hx
    obtain rfl:V.str x' = x:=Option.some.inj hx
    refine ⟨_,rfl,x',rfl,hsl x' (List.mem_of_getElem? hh),rfl,?_⟩
    rw [List.take_add_one,hh,List.map_append,List.map_append]; rfl
  rintro ys _ hy ⟨rfl,rfl⟩
  rw [List.length_map,List.take_length]
  obtain ⟨ns,ens⟩:∃ ns:List (Option Nat),ns = hs.map fun x => fg x.cps.toList:=⟨_,rfl⟩
  rw [← ens]
  refine fun L nL => ?_
  have SL:=S2.trans (Zak nL (.lst (ns.map ovN)))
  have qL:=Zaf (H:=H2) (a:=L) (o:=.lst (ns.map ovN))
  generalize upd H2 L _ = H3 at *
  have dec:(p = 0 ∧ ∃ a t,spl 47 b.cps.toList = a :: t ∧ ns = fg a :: t.map fg ∧ Bdy z b neg) ∨ (0 < p ∧ ns = [fg z.cps.toList]):=by
    rcases hH with ⟨e0,eh⟩ | ⟨e0,rfl⟩
    · rcases hB with ⟨_,hB⟩ | ⟨z',_⟩
      · obtain ⟨a,t,es⟩:=Ze2 47 b.cps.toList
        refine .inl ⟨e0,a,t,es,?_,hB⟩
        have e2:ns = (hs.map (·.cps.toList)).map fg:=by rw [ens,List.map_map]; rfl
        rw [e2,eh,es]; rfl
      · omega
    · exact .inr ⟨e0,ens⟩
  refine ⟨_,rfl,L,_,rfl,.inl (SqL.of qL),rfl,Zg6 ns,?_⟩
  rw [show (if false = true then !inV .non (ns.map ovN) else inV .non (ns.map ovN)) = decide (none ∈ ns) from ZiL ns]
  refine ⟨_,rfl,?_⟩
  have frz:∀ {a t},p = 0 → spl 47 b.cps.toList = a :: t → Bdy z b neg → ∃ a',fr z.cps.toList = fr2 (a' :: t) ∧ wh a' = sgN neg (fg a):=fun e0 es hB => by
    obtain ⟨a',ea,wa⟩:=hB.fr es
    exact ⟨a',by unfold fr; rw [ea],wa⟩
  refine Zar (fun hn => Zb5 (kN ?_ H3 SL)) (fun hn => ?_)
  · rcases dec with ⟨e0,a,t,es,en,hB⟩ | ⟨e0,en⟩
    · refine .inr ⟨e0,?_⟩
      obtain ⟨a',ef,wa⟩:=frz e0 es hB
      rw [ef]
      rw [en] at hn
      rcases List.mem_cons.mp hn with hn | hn
      · rw [← hn] at wa
        have wa:wh a' = none:=by rw [wa]; cases neg <;> rfl
        match t with
        | [] => simp only [fr2,wa]
        | [c] => simp only [fr2,wa]
        | _ :: _ :: _ => rfl
      · obtain ⟨c,hc,ec⟩:=List.mem_map.mp hn
        match t,hc with
        | [c'],hc =>
          rw [List.mem_singleton.mp hc] at ec
          simp only [fr2,ec]
          cases wh a' <;> rfl
        | _ :: _ :: _,_ => rfl
    · refine .inl ⟨e0,fun n e => ?_⟩
      rw [en,e] at hn
      rcases List.mem_cons.mp hn with hn | hn
      · cases hn
      · cases hn
  refine ⟨_,rfl,L,_,rfl,.inl (SqL.of qL),_,_,rfl,rfl,_,rfl,?_⟩
  rw [List.length_map]
  refine Zar (fun h2 => kN ?_ H3 SL) (fun h2 => ?_)
  · have h2:(2:Int) < (ns.length:Int):=h2
    rcases dec with ⟨e0,a,t,es,en,hB⟩ | ⟨e0,en⟩
    · refine .inr ⟨e0,?_⟩
      obtain ⟨a',ef,wa⟩:=frz e0 es hB
      rw [ef]
      rw [en,List.length_cons,List.length_map] at h2
      match t with
      | [] => exact absurd h2 (by simp)
      | [_] => exact absurd h2 (by simp)
      | _ :: _ :: _ => rfl
    · rw [en] at h2; exact absurd h2 (by simp)
  have h2:¬ (2:Int) < (ns.length:Int):=h2
  rcases dec with ⟨e0,a,t,es,en,hBd⟩ | ⟨e0,en⟩
  case inr =>
    refine ⟨_,rfl,_,_,rfl,rfl,_,rfl,Zar (fun _ => ?_) (fun q => absurd e0 q)⟩
    cases hg:fg z.cps.toList with
    | none => rw [en,hg] at hn; exact absurd (.head _) hn
    | some n =>
    rw [en,hg] at qL
    refine ⟨_,rfl,L,_,_,_,rfl,rfl,SqL.of qL,ZaA (j:=0) rfl,_,rfl,_,_,rfl,rfl,_,rfl,?_⟩
    refine Zar (fun h3 => ?_) (fun h3 => ?_)
    · exact ⟨_,rfl,L,_,_,_,rfl,rfl,SqL.of qL,ZaA (j:=0) rfl,kY H3 _ SL (.inl ⟨e0,n,hg,h3,rfl⟩)⟩
    · exact kN (.inl ⟨e0,fun m e => by rw [hg] at e; cases e; exact h3⟩) H3 SL
  subst e0
  obtain ⟨a',ef,wa⟩:=frz rfl es hBd
  refine ⟨_,rfl,_,_,rfl,rfl,_,rfl,Zar (fun q => absurd q (by decide)) (fun _ => ?_)⟩
  cases hg:fg a with
  | none => rw [en,hg] at hn; exact absurd (.head _) hn
  | some n =>
  rw [hg] at wa
  have bne:=hBd.ne
  have sg:¬ (neg = true ∧ n = 0) → wh a' = some ((n:Int) * (1 - 2 * (if neg = true then 1 else 0))):=fun q => by
    rw [wa]
    cases neg with
    | false => show some (n:Int) = _; rw [if_neg (by decide),show (1:Int) - 2 * 0 = 1 by decide,Int.mul_one]
    | true =>
      cases n with
      | zero => exact absurd ⟨rfl,rfl⟩ q
      | succ m => show some (-((m + 1:Nat):Int)) = _; rw [if_pos rfl,show (1:Int) - 2 * 1 = -1 by decide,Int.mul_neg,Int.mul_one]
  have sg0:(neg = true ∧ n = 0) → wh a' = none:=fun ⟨q1,q2⟩ => by rw [wa,q1,q2]; rfl
  have mb:∀ q:Bool,-(2 ^ 64) < (1:Int) - 2 * (if q = true then 1 else 0) ∧ (1:Int) - 2 * (if q = true then 1 else 0) < 2 ^ 64:=by decide
  match t,en,ef with
  | [],en,ef =>
    rw [en,hg] at qL
    have at0:atI (([some n]:List (Option Nat)).map ovN) 0 = some (.int (n:Int)):=ZaA (j:=0) rfl
    have qS:=SqL.of (K:=K) qL
    refine ZiJ ?_
    refine ZhZ (C:=tOr _ _ _ _) (decide (neg = true ∧ n = 0)) H3 (fun R hR => ?_) ?_
    · refine ZhZ (C:=Zh6 _ _ _ _) (decide (neg = true ∧ n = 0)) H3 (fun R hR => ?_) ?_
      · refine ⟨_,rfl,_,rfl,rfl,_,rfl,?_⟩
        rw [bne]
        cases neg with
        | false => rw [decide_eq_false (by simp)] at hR; exact Zcj hR
        | true =>
          refine Zb5 ⟨_,rfl,L,_,_,_,rfl,rfl,qS,at0,rfl,_,rfl,?_⟩
          rw [show decide (V.int (n:Int) = V.int 0) = decide (true = true ∧ n = 0) from by
            rw [Bool.eq_iff_iff,decide_eq_true_iff,decide_eq_true_iff]
            exact ⟨fun e => ⟨rfl,by have:=V.int.inj e; omega⟩,fun e => by rw [e.2]; rfl⟩]
          exact hR
      · refine Zar (fun q => by rw [decide_eq_true q] at hR; exact hR) (fun q => ?_)
        rw [decide_eq_false q] at hR
        refine ⟨_,rfl,L,_,rfl,.inl qS,rfl,_,rfl,?_⟩
        exact ZaS (fun e => absurd e (by show ¬ ((1:Nat):Int) = 2; decide)) (fun _ => hR)
    refine Zar (fun q => kN (.inr ⟨rfl,by rw [ef]; simp only [fr2,sg0 q]⟩) H3 SL) (fun q => ?_)
    refine ⟨_,rfl,L,_,rfl,.inl qS,rfl,_,rfl,?_⟩
    refine ZaS (fun e => absurd e (by show ¬ ((1:Nat):Int) = 2; decide)) (fun _ => ?_)
    refine ⟨_,rfl,L,_,_,_,rfl,rfl,qS,at0,_,rfl,_,_,rfl,rfl,_,rfl,?_⟩
    refine ZaJ (fun e => absurd (congrArg V.int (by rw [Int.gcd_one_right]; rfl)) e) (fun _ => ?_)
    refine ⟨_,rfl,L,_,_,_,rfl,rfl,qS,at0,_,rfl,_,rfl,rfl,?_⟩
    rw [bne]
    refine .inr ⟨neg,rfl,_,_,rfl,rfl,.inl ⟨by decide,by decide⟩,_,_,rfl,rfl,_,_,rfl,rfl,.inr (mb neg),_,rfl,(by show 2 ≤ sizeLine; decide),fun r nr => kY _ _ (SL.trans (Zak nr _)) (.inr ⟨rfl,r,_,_,?_,rfl,Zaf⟩)⟩
    rw [ef]; simp only [fr2,sg q]
  | [c],en,ef =>
    cases hc:fg c with
    | none => rw [en,List.map_cons,hc] at hn; exact absurd (.tail _ (.head _)) hn
    | some m =>
    rw [en,show List.map fg [c] = [fg c] from rfl,hg,hc] at qL
    have at0:atI (([some n,some m]:List (Option Nat)).map ovN) 0 = some (.int (n:Int)):=ZaA (j:=0) rfl
    have at1:atI (([some n,some m]:List (Option Nat)).map ovN) 1 = some (.int (m:Int)):=ZaA (j:=1) rfl
    have qS:=SqL.of (K:=K) qL
    refine ZiJ ?_
    refine ZhZ (C:=tOr _ _ _ _) (decide ((neg = true ∧ n = 0) ∨ m < 2)) H3 (fun R hR => ?_) ?_
    · refine ZhZ (C:=Zh6 _ _ _ _) (decide (neg = true ∧ n = 0)) H3 (fun R hR => ?_) ?_
      · refine ⟨_,rfl,_,rfl,rfl,_,rfl,?_⟩
        rw [bne]
        cases neg with
        | false => rw [decide_eq_false (by simp)] at hR; exact Zcj hR
        | true =>
          refine Zb5 ⟨_,rfl,L,_,_,_,rfl,rfl,qS,at0,rfl,_,rfl,?_⟩
          rw [show decide (V.int (n:Int) = V.int 0) = decide (true = true ∧ n = 0) from by
            rw [Bool.eq_iff_iff,decide_eq_true_iff,decide_eq_true_iff]
            exact ⟨fun e => ⟨rfl,by have:=V.int.inj e; omega⟩,fun e => by rw [e.2]; rfl⟩]
          exact hR
      · refine Zar (fun q => by rw [decide_eq_true (.inl q)] at hR; exact hR) (fun q => ?_)
        refine ⟨_,rfl,L,_,rfl,.inl qS,rfl,_,rfl,?_⟩
        refine ZaS (fun _ => ?_) (fun e => absurd rfl e)
        refine ⟨_,rfl,L,_,_,_,rfl,rfl,qS,at1,_,_,rfl,rfl,_,rfl,?_⟩
        rw [show decide ((m:Int) < 2) = decide ((neg = true ∧ n = 0) ∨ m < 2) from by
          rw [Bool.eq_iff_iff,decide_eq_true_iff,decide_eq_true_iff]
          exact ⟨fun e => .inr (by omega),fun e => by rcases e with e | e; exact absurd e q; omega⟩]
        exact hR
    refine Zar (fun q => kN (.inr ⟨rfl,?_⟩) H3 SL) (fun q => ?_)
    · rw [ef]
      rcases q with q | q
      · simp only [fr2,sg0 q]
      · simp only [fr2,hc]
        cases wh a' with
        | none => rfl
        | some t => exact if_pos (.inl q)
    have q1:¬ (neg = true ∧ n = 0):=fun z => q (.inl z)
    have q2:¬ m < 2:=fun z => q (.inr z)
    refine ⟨_,rfl,L,_,rfl,.inl qS,rfl,_,rfl,?_⟩
    refine ZaS (fun _ => ?_) (fun e => absurd rfl e)
    refine ⟨_,rfl,L,_,_,_,rfl,rfl,qS,at1,?_⟩
    refine ⟨_,rfl,L,_,_,_,rfl,rfl,qS,at0,_,rfl,_,_,rfl,rfl,_,rfl,?_⟩
    have gs:∀ s:Bool,Int.gcd ((n:Int) * (1 - 2 * (if s = true then 1 else 0))) (m:Int) = Int.gcd (n:Int) (m:Int):=fun s => by
      cases s
      · rw [if_neg (by decide),show (1:Int) - 2 * 0 = 1 by decide,Int.mul_one]
      · rw [if_pos rfl,show (1:Int) - 2 * 1 = -1 by decide,Int.mul_neg,Int.mul_one,Int.neg_gcd]
    have gp:0 < Int.gcd (n:Int) (m:Int):=Nat.pos_of_ne_zero fun z => by have:=(Int.gcd_eq_zero_iff.mp z).2; omega
    refine ZaJ (fun e => kN (.inr ⟨rfl,?_⟩) H3 SL) (fun e => ?_)
    · rw [ef]
      simp only [fr2,sg q1,hc]
      refine if_pos (.inr ?_)
      rw [gs]
      have:¬ Int.gcd (n:Int) (m:Int) = 1:=fun z => e (by rw [z]; rfl)
      omega
    · have e:Int.gcd (n:Int) (m:Int) = 1:=by have:=V.int.inj e; omega
      refine ⟨_,rfl,L,_,_,_,rfl,rfl,qS,at0,_,rfl,_,rfl,rfl,?_⟩
      rw [bne]
      refine .inr ⟨neg,rfl,_,_,rfl,rfl,.inl ⟨by decide,by decide⟩,_,_,rfl,rfl,_,_,rfl,rfl,.inr (mb neg),_,rfl,(by show 2 ≤ sizeLine; decide),fun r nr => kY _ _ (SL.trans (Zak nr _)) (.inr ⟨rfl,r,_,_,?_,rfl,Zaf⟩)⟩
      rw [ef]; simp only [fr2,sg q1,hc]
      refine if_neg (fun z => ?_)
      rcases z with z | z
      · exact q2 z
      · rw [gs,e] at z; exact absurd z (by decide)
  | _ :: _ :: _,en,_ =>
    rw [en] at h2
    exact absurd (show (2:Int) < (((_ :: (_ :: _ :: _)):List (Option Nat)).length:Int) by simp only [List.length_cons]; omega) h2
end
end My
namespace My
open PySem L2 PyProof.Rows
section
variable {P:Program} {w:World} {K:PySem.W.Frag} {mg:Str → Option Value} {base:Heap} {CF CR cX:Addr}
theorem Zgw:FnScope ["_law_prime_here", "_law_table"] ["_law_prime_here", "_law_table"] (Zag ZdC):=⟨rfl,rfl,rfl,by decide +kernel,rfl,by decide +kernel,by decide +kernel⟩
theorem Zgx (h:Here K mg "_law_text" ZdC) (h_l_shown:Has P w K mg base "_law_shown" 1 ["_law_prime_here", "_law_number"] Zdk):Has P w K mg base "_law_text" 2 ["_law_prime_here", "_law_table"] (Zen K):=by
  refine h.has (fun f fd F => F.binds fun _ _ _ _ _ _ us hl => by obtain ⟨_,_,rfl⟩:=Zdu hl; exact rfl) fun f fd F => F.ok Zgw (fun vs H Q E h => ?_) (fun cdv A outer s H vs Q E hr h => ?_)
  · obtain ⟨_,_,_,_,rfl,_⟩:=h
    rfl
  obtain ⟨p,t,rs,R,rfl,pk,tb,l8,l82,k⟩:=h
  refine ⟨_,(Zae (Zal (ZbT PySem.F.plainAttrs_str PySem.F.slot_str_join PySem.F.type_str_join Zdy Zax (Zaa (Zbc ["_law_row"] [(0, "_law_prime_here")] rfl (ZaF (pv 1)) (by exact fun _ _ _ _ => (Zaw (i:=0) (show (["_law_row", "_law_prime_here"]:List Str).Nodup by decide +kernel) rfl (Or.inl rfl))) (by exact fun _ _ _ _ => (ZiD K rfl PySem.F.plainAttrs_str PySem.F.slot_str_join PySem.F.type_str_join (Zg2 K rfl) Zax (Zaa ((Zbc ["_law_number"] [(1, "_law_prime_here")] rfl (ZgW K rfl (pv 0)) (by exact fun _ _ _ _ => (Zaw (i:=0) (show (["_law_number", "_law_prime_here"]:List Str).Nodup by decide +kernel) rfl (Or.inl rfl))) (by exact fun _ _ _ _ => (Zay h_l_shown hr (by rfl) (Zaa (pv 1) (Zaa (pv 0) Zac)))) ⟨⟨rfl,rfl,(by first | exact Or.inl rfl | exact Or.inr rfl)⟩,trivial⟩)) Zac))) ⟨⟨rfl,rfl,Or.inl rfl⟩,trivial⟩) Zac)))),?_⟩
  have lr:=tb.r.1
  refine ⟨rfl,_,rfl,t,rfl,⟨_,SqL.of tb.l⟩,?_⟩
  refine ZaE (xs:=rs.map V.ref) (fun i ys H' => Same H H' ∧ ∃ zs:List Str,ys = zs.map V.str ∧ AlG (ShR H p) (R.take i) zs) (by rw [List.length_map]; omega) ⟨Same.refl _,[],rfl,AlG.nil⟩ ?_ ?_ ?_
  · rintro i ys H1 - ⟨S1,_⟩
    exact SqL.of (S1 _ _ tb.l)
  · rintro i x ys H1 hx hy ⟨S1,zs,rfl,al⟩
    rw [List.getElem?_map] at hx
    cases hh:rs[i]? with
    | none => rw [hh] at hx; cases hx
    | some r =>
    rw [hh] at hx
    obtain rfl:V.ref r = x:=Option.some.inj hx
    obtain ⟨row,hrow,hr'⟩:=tb.r.get hh
    have mr:=List.mem_of_getElem? hrow
    have nu:=tb.n row mr
    have l7:=l82 row mr
    refine ⟨rfl,_,rfl,r,rfl,⟨_,SqL.of (S1 _ _ hr')⟩,?_⟩
    refine ZaE (xs:=row) (fun j ys H' => H1 = H' ∧ ∃ ws:List Str,ys = ws.map V.str ∧ AlG (ShV H p) (row.take j) ws) (by omega) ⟨rfl,[],rfl,AlG.nil⟩ ?_ ?_ ?_
    · rintro j ys _ - ⟨rfl,_⟩
      exact SqL.of (S1 _ _ hr')
    · rintro j v ys _ hv hy' ⟨rfl,ws,rfl,aw⟩
      have nv:=nu v (List.mem_of_getElem? hv)
      refine ⟨_,rfl,_,rfl,p,v,rfl,pk,nv.same S1,fun z sz _ => ⟨rfl,ws ++ [z],by rw [List.map_append]; rfl,aw.step hv ?_⟩⟩
      rcases sz with sz | ⟨p0,t',a',b',e,q,ez⟩
      · exact .inl sz
      · rcases nv with ⟨_,t2,a2,b2,e2,q2,_⟩ | ⟨z,_⟩
        · rw [e] at e2; cases e2
          rw [S1 _ _ q2] at q; cases q
          exact .inr ⟨p0,t',_,_,e,q2,ez⟩
        · omega
    · rintro ys _ hy' ⟨rfl,ws,rfl,aw⟩
      rw [List.take_length] at aw
      refine fun D nD => ⟨" ", D,ws,rfl,rfl,SqL.of Zaf,Zhm aw nu pk l7,S1.trans (Zak nD _),zs ++ [Txt.join " " ws],by rw [List.map_append]; rfl,al.step hrow ⟨ws,aw,rfl⟩⟩
  · rintro ys H1 hy ⟨S1,zs,rfl,al⟩
    rw [List.length_map,lr,List.take_length] at al
    obtain ⟨o1,o2⟩:=Zhn al tb.n pk l8 l82
    refine fun D nD => ⟨"; ", D,zs,rfl,rfl,SqL.of Zaf,o1,k _ _ (S1.trans (Zak nD _)) ⟨zs,al,rfl⟩ o2⟩
theorem sc_l_rows:FnScope ["_law_prime_here", "_law_cells", "_law_at", "_law_cell_here", "_law_rows_here", "_law_columns", "_law_table", "_law_i", "_law_short"] ["_law_prime_here", "_law_cells", "_law_at"] (Zag ZdB):=⟨rfl,rfl,rfl,by decide +kernel,rfl,by decide +kernel,by decide +kernel⟩
theorem Zgy (h:Here K mg "_law_rows" ZdB) (T:Nm mg) (h_l_drawn:Has P w K mg base "_law_drawn" 3 ["_law_prime_here", "_law_cell_here"] Zdj) (h_l_cell:Has P w K mg base "_law_cell" 3 ["_law_cells", "_law_k"] Zec):Has P w K mg base "_law_rows" 4 ["_law_prime_here", "_law_cells", "_law_at"] Zeo:=by
  refine h.has (fun f fd F => F.binds fun _ _ _ _ _ _ us hl => by obtain ⟨_,_,_,rfl⟩:=ZiQ hl; exact rfl) fun f fd F => F.ok sc_l_rows (fun vs H Q E h => ?_) (fun cdv A outer s H vs Q E hr h => ?_)
  · obtain ⟨_,_,_,_,rfl,_⟩:=h
    rfl
  obtain ⟨p,c,cs,a,rfl,hp,ce,ha,k⟩:=h
  have nd:=sc_l_rows.nd
  refine ⟨_,(Zab (Zaq (i:=3) nd rfl (Or.inl rfl) (ZaI ZaB (pv 1) (pv 2) (fun _ _ => rfl)))
    (Zab (Zaq (i:=4) nd rfl (Or.inl rfl) (Zap ZaR Zad (Zap ZaK (Zap ZaK (Zap Zbr (pv 3) Zad) Zad) Zad)))
    (Zab (Zaq (i:=5) nd rfl (Or.inr rfl) (Zap ZaR Zad (Zap ZaK (Zap ZaK (Zap Zbr (pv 3) Zad) Zad) Zad)))
    (Zab (Zaq (i:=6) nd rfl (Or.inl rfl) (Zch Zac))
    (Zab (ZcA PassesOwn.never rfl (ZdM (by rfl) T.range (Zaa (pv 4) Zac)) (Zaw (i:=7) nd rfl (Or.inr rfl)) (Zae (Zcz (ZbT PySem.F.plainAttrs_list PySem.F.slot_list_append PySem.F.type_list_append ZcG (pv 6) (Zaa (Zbc ["_law_j"] [(0, "_law_prime_here"),(1, "_law_cells"),(2, "_law_at"),(7, "_law_i"),(5, "_law_columns")] rfl (ZdM (by rfl) T.range (Zaa (pv 5) Zac)) (by exact fun _ _ _ _ => (Zaw (i:=0) (show (["_law_j", "_law_prime_here", "_law_cells", "_law_at", "_law_i", "_law_columns"]:List Str).Nodup by decide +kernel) rfl (Or.inl rfl))) (by exact fun _ _ _ _ => (Zay h_l_drawn hr (by rfl) (Zaa (pv 1) (Zaa (Zay h_l_cell hr (by rfl) (Zaa (pv 2) (Zaa (Zap ZaR (Zap ZaR (Zap ZaR (pv 3) Zad) (Zap Zb6 (pv 4) (pv 5))) (pv 0)) Zac))) Zac)))) ⟨⟨rfl,rfl,Or.inl rfl⟩,⟨⟨rfl,rfl,Or.inl rfl⟩,⟨⟨rfl,rfl,Or.inl rfl⟩,⟨⟨rfl,rfl,Or.inl rfl⟩,⟨⟨rfl,rfl,Or.inl rfl⟩,trivial⟩⟩⟩⟩⟩) Zac)))))
    (Zab (Zau (Zc7 (Zai Za3 (Zap ZaK (Zap ZaK (Zap Zbr (pv 3) Zad) Zad) Zad) Zad (Zam _)) (Zb2 (Zai ZbL (pv 5) Zad (Zam _)))).pt (Zab (Zaq (i:=8) nd rfl (Or.inl rfl) (Zap Za6 (Zap ZaK (Zap Zbr (pv 3) Zad) Zad) (pv 4)))
      (Zae (Zia (ZaO Zf0 (ZaI ZaB (pv 6) (pv 8) (fun _ _ => rfl)) (Za8 Zad) Za7) (Zh9 (pv 6) (pv 8) ZgM)))) Zaj)
    (Zae (Zal (pv 6))))))))),?_⟩
  have h2:=ce.h2
  have ac:=Zd9 ha
  generalize cs[a] = d at *
  refine ⟨_,rfl,_,rfl,c,_,_,_,rfl,rfl,SqL.of ce.l,ac,?_⟩
  refine ⟨_,rfl,_,_,rfl,rfl,.inr ⟨by decide,by decide⟩,_,_,rfl,rfl,(by show (0:Int) < _; decide),_,_,rfl,rfl,(by show (0:Int) < _; decide),_,_,rfl,rfl,?_⟩
  refine ⟨_,rfl,_,_,rfl,rfl,.inr ⟨by decide,by decide⟩,_,_,rfl,rfl,(by show (0:Int) < _; decide),_,_,rfl,rfl,(by show (0:Int) < _; decide),_,_,rfl,rfl,?_⟩
  obtain ⟨n,en,n1,n7⟩:∃ n:Nat,1 + d * 48271 % 65537 % 8 = (n:Int) ∧ 1 ≤ n ∧ n ≤ 8:=⟨(1 + d * 48271 % 65537 % 8).toNat,by omega,by omega,by omega⟩
  obtain ⟨m,em,m1,m7⟩:∃ m:Nat,1 + d * 69621 % 65539 % 8 = (m:Int) ∧ 1 ≤ m ∧ m ≤ 8:=⟨(1 + d * 69621 % 65539 % 8).toNat,by omega,by omega,by omega⟩
  show Zb3 5 (V.int (1 + d * 69621 % 65539 % 8)) (List.set _ 4 (some (V.int (1 + d * 48271 % 65537 % 8)))) H _
  rw [en,em]
  refine ⟨(by show 0 ≤ sizeLine; decide),fun t ht => ?_⟩
  refine ⟨_,rfl,(n:Int),rfl,by omega,by omega,?_⟩
  rw [Int.toNat_natCast]
  refine ZfK (lo:=0) (n:=n) (fun i σ H2 => ∃ (z:Option V) (rs:List Addr) (R:List (List V)),σ = [some (.int p),some (.ref c),some (.int (a:Int)),some (.int d),some (.int (n:Int)),some (.int (m:Int)),some (.ref t),z,none] ∧ Same H H2 ∧ RTb H2 p t rs R ∧ R.length = i ∧ (∀ row ∈ R,row.length = m) ∧ t ∉ rs)
    ⟨none,[],[],rfl,Zak ht _,⟨Zaf,AlG.nil,fun row hr => absurd hr (by simp)⟩,rfl,fun row hr => absurd hr (by simp),by simp⟩ ?_ ?_
  · rintro i σ H2 hi ⟨z,rs,R,rfl,S,tb,hl,lm,nt⟩
    have hT:=tb.l
    have lr:=tb.r.1
    refine ⟨_,rfl,.inl ⟨rfl,_,SqL.of hT⟩,?_⟩
    refine ⟨_,rfl,(m:Int),rfl,by omega,by omega,?_⟩
    rw [Int.toNat_natCast]
    refine Zfm (lo:=0) (n:=m) (fun j ys H3 => Same H2 H3 ∧ ys.length = j ∧ ∀ v ∈ ys,Nu H3 p v) (by omega) ⟨Same.refl _,rfl,fun v e => by simp at e⟩ ?_ ?_
    · rintro j ys H3 hj hy ⟨S3,-,ny⟩
      have e1:(a:Int) + 1 + (0 + (i:Int)) * (m:Int) + (0 + (j:Int)) = ((a + 1 + i * m + j:Nat):Int):=by
        rw [Int.zero_add,Int.zero_add,Int.natCast_add,Int.natCast_add,Int.natCast_add,Int.natCast_mul]; rfl
      have e2:i * m ≤ 7 * 8:=Nat.mul_le_mul (by omega) m7
      refine ⟨_,rfl,_,rfl,_,rfl,_,_,rfl,rfl,_,rfl,_,rfl,_,_,rfl,rfl,.of_right (intBits_le_64 (by omega) (by omega)),_,_,rfl,rfl,_,rfl,_,_,rfl,rfl,c,cs,a + 1 + i * m + j,(congrArg (fun z => [V.ref c,V.int z]) e1),(ce.same S).same S3,by omega,fun x bx => ?_⟩
      refine ⟨p,x,rfl,hp,bx.mono (by decide),fun H4 v S4 nv => ?_⟩
      refine ⟨S3.trans S4,by simp [hy],fun u hu => ?_⟩
      rcases List.mem_append.mp hu with hu | hu
      · exact (ny u hu).same S4
      · rw [List.mem_singleton.mp hu]; exact nv
    · rintro ys H3 hy ⟨S3,-,ny⟩ D hD
      have S4:=Zak hD (.lst ys)
      have qD:=Zaf (H:=H3) (a:=D) (o:=.lst ys)
      have nD:D ≠ t:=fun z => by subst z; rw [S3 _ _ hT] at hD; cases hD
      generalize upd H3 D _ = H4 at *
      have S24:=S3.trans S4
      have tb4:=tb.same S24
      refine ⟨t,_,.ref D,rfl,rfl,tb4.l,by rw [List.length_map]; exact Nat.lt_of_lt_of_le (show rs.length < 1000 by omega) (by decide),?_⟩
      have keep:∀ b o,b ≠ t → H4 b = some o → upd H4 t (.lst (rs.map V.ref ++ [.ref D])) b = some o:=fun b o hb q => by rw [Zan hb]; exact q
      have nuS:∀ v,Nu H4 p v → Nu (upd H4 t (.lst (rs.map V.ref ++ [.ref D]))) p v:=fun v hv => by
        rcases hv with ⟨z,s,x,y,rfl,hs,r⟩ | hv
        · exact .inl ⟨z,s,x,y,rfl,keep s _ (fun z => by subst z; rw [tb4.l] at hs; cases hs) hs,r⟩
        · exact .inr hv
      refine ⟨_,rs ++ [D],R ++ [ys],rfl,fun b o q => ?_,⟨by rw [Zaf,List.map_append]; rfl,AlG.snoc ⟨tb4.r.1,fun j r row hr hrow => keep r _ (fun z => nt (z ▸ List.mem_of_getElem? hr)) (tb4.r.2 j r row hr hrow)⟩ (keep D _ nD qD),fun row hrow v hv => nuS v ?_⟩,by rw [List.length_append,hl]; rfl,fun row hrow => ?_,fun q => ?_⟩
      · exact keep b o (fun z => by subst z; rw [ht] at q; cases q) ((S.trans S24) _ _ q)
      · rcases List.mem_append.mp hrow with hrow | hrow
        · exact tb4.n row hrow v hv
        · rw [List.mem_singleton.mp hrow] at hv; exact (ny v hv).same S4
      · rcases List.mem_append.mp hrow with hrow | hrow
        · exact lm row hrow
        · rw [List.mem_singleton.mp hrow]; exact hy
      · rcases List.mem_append.mp q with q | q
        · exact nt q
        · exact nD (List.mem_singleton.mp q).symm
  rintro σ H2 ⟨z,rs,R,rfl,S,tb,hl,lm,nt⟩
  have lr:=tb.r.1
  have fin:Q (.ref t) H2:=k H2 t rs R S tb (by omega) fun row hr => by have:=lm row hr; omega
  refine ZiK ?_
  refine ZhZ (C:=Zh6 _ _ _ _) (decide (d * 40692 % 65543 % 8 = 1 ∧ 1 < m)) H2 (fun RR hR => ?_) ?_
  · refine ⟨_,rfl,_,_,rfl,rfl,.inr ⟨by decide,by decide⟩,_,_,rfl,rfl,(by show (0:Int) < _; decide),_,_,rfl,rfl,(by show (0:Int) < _; decide),rfl,_,rfl,?_⟩
    refine ZaS (fun e => ?_) (fun e => by rw [decide_eq_false (fun q => e q.1)] at hR; exact hR)
    refine ⟨_,rfl,_,_,rfl,rfl,_,rfl,?_⟩
    rw [show decide ((1:Int) < (m:Int)) = decide (d * 40692 % 65543 % 8 = 1 ∧ 1 < m) from by
      rw [Bool.eq_iff_iff,decide_eq_true_iff,decide_eq_true_iff]
      exact ⟨fun q => ⟨e,by omega⟩,fun q => by omega⟩]
    exact hR
  refine Zar (fun hm => ?_) (fun _ => ⟨_,rfl,fin⟩)
  obtain ⟨r,er,hr0,hr1⟩:∃ r:Nat,(d * 39373 % 65557).fmod (n:Int) = (r:Int) ∧ 0 ≤ r ∧ r < n:=by
    rw [Int.fmod_eq_emod_of_nonneg _ (by omega)]
    have f1:=Int.emod_nonneg (d * 39373 % 65557) (show (n:Int) ≠ 0 by omega)
    have f2:=Int.emod_lt_of_pos (d * 39373 % 65557) (show (0:Int) < (n:Int) by omega)
    exact ⟨((d * 39373 % 65557) % (n:Int)).toNat,by omega,by omega,by omega⟩
  refine ⟨_,rfl,_,_,rfl,rfl,.inr ⟨by decide,by decide⟩,_,_,rfl,rfl,(by show (0:Int) < _; decide),_,rfl,_,_,rfl,rfl,(show (n:Int) ≠ 0 by omega),?_⟩
  show Zb3 8 (V.int ((d * 39373 % 65557).fmod (n:Int))) _ H2 _
  rw [er]
  have hrs:r < rs.length:=by omega
  obtain ⟨row,hrow,qrow⟩:=tb.r.get (List.getElem?_eq_getElem hrs)
  refine ⟨_,rfl,_,rfl,t,_,_,_,rfl,rfl,SqL.of tb.l,ZaA (j:=r) (by rw [List.getElem?_map,List.getElem?_eq_getElem hrs]; rfl),1,rfl,_,row,rfl,SqL.of qrow,fun D nD => ?_⟩
  rw [show ZfC row (some 1) none = row.drop 1 from Zgv row 1]
  have SD:=Zak nD (.lst (row.drop 1))
  have qD:=Zaf (H:=H2) (a:=D) (o:=.lst (row.drop 1))
  have nDt:D ≠ t:=fun z => by subst z; rw [tb.l] at nD; cases nD
  generalize upd H2 D _ = H3 at *
  have tb3:=tb.same SD
  refine ⟨_,rfl,_,rfl,t,_,_,r,rfl,rfl,tb3.l,?_,?_⟩
  · unfold ixN
    rw [List.length_map,if_pos (by omega),if_pos (by omega),Int.toNat_natCast]
  have keep:∀ b o,b ≠ t → H3 b = some o → upd H3 t (.lst ((rs.map V.ref).set r (.ref D))) b = some o:=fun b o hb q => by rw [Zan hb]; exact q
  refine ⟨_,rfl,k _ t (rs.set r D) (R.set r (row.drop 1)) (fun b o q => keep b o (fun z => by subst z; rw [ht] at q; cases q) ((S.trans SD) _ _ q)) ⟨?_,AlG.set ⟨tb3.r.1,fun j r' row' hr' hrow' => keep r' _ (fun z => nt (z ▸ List.mem_of_getElem? hr')) (tb3.r.2 j r' row' hr' hrow')⟩ (keep D _ nDt qD),fun row' hrow' v hv => ?_⟩ (by rw [List.length_set]; omega) fun row' hrow' => ?_⟩
  · rw [Zaf,List.map_set]
  · have nv:Nu H3 p v:=by
      rcases List.mem_or_eq_of_mem_set hrow' with q | q
      · exact tb3.n row' q v hv
      · rw [q] at hv; exact tb3.n row (List.mem_of_getElem? hrow) v (List.mem_of_mem_drop hv)
    rcases nv with ⟨z,s,x,y,rfl,hs,r⟩ | nv
    · exact .inl ⟨z,s,x,y,rfl,keep s _ (fun z => by subst z; rw [tb3.l] at hs; cases hs) hs,r⟩
    · exact .inr nv
  · rcases List.mem_or_eq_of_mem_set hrow' with q | q
    · have:=lm row' q; omega
    · rw [q,List.length_drop]
      have:=lm row (List.mem_of_getElem? hrow); omega
end
end My
namespace My
open PySem L2 PyProof.Rows
section
variable {P:Program} {w:World} {K:PySem.W.Frag} {mg:Str → Option Value} {base:Heap} {CF CR cX:Addr}
theorem sc_l_spoiled:FnScope ["_law_text_here", "_law_cell_here", "_law_way", "_law_at", "_law_some", "_law_sign"] ["_law_text_here", "_law_cell_here"] (Zag ZbP):=⟨rfl,rfl,rfl,by decide +kernel,rfl,by decide +kernel,by decide +kernel⟩
theorem Zc4 (h:Here K mg "_law_spoiled" ZbP) (T:Nm mg):Has P w K mg base "_law_spoiled" 1 ["_law_text_here", "_law_cell_here"] (ZbG K):=by
  refine h.has (fun f fd F => F.binds fun _ _ _ _ _ _ us hl => by obtain ⟨_,_,rfl⟩:=Zdu hl; exact rfl) fun f fd F => F.ok sc_l_spoiled (fun vs H Q E h => ?_) (fun cdv A outer s H vs Q E hr h => ?_)
  · obtain ⟨_,_,rfl,_⟩:=h
    rfl
  obtain ⟨z,c,rfl,zl,k⟩:=h
  have nd:=sc_l_spoiled.nd
  refine ⟨_,(Zab (Zaq (i:=2) nd rfl (Or.inl rfl) (Zap ZaK (Zap ZaK (Zap Zbr (pv 1) Zad) Zad) Zad))
    (Zab (Zaq (i:=3) nd rfl (Or.inl rfl) (Zap Za6 (Zap ZaK (Zap Zbr (pv 1) Zad) Zad) (Zap ZaR (Zah ZaZ (by rfl) T.len boot_len (Zaa (pv 0) Zac)) Zad)))
    (Zab (Zaq (i:=4) nd rfl (Or.inl rfl) Zax)
    (Zab (Zaq (i:=5) nd rfl (Or.inl rfl) (ZaI ZfZ (pv 4) (Zap Za6 (Zap ZaK (Zap Zbr (pv 1) Zad) Zad) (Zah ZaZ (by rfl) T.len boot_len (Zaa (pv 4) Zac))) (fun _ _ => rfl)))
    (Zab (Zau (Zai ZcZ (pv 2) Zad (Zam _)) (Zae (Zal (Zap ZaT (Zap ZaT (ZaO ZbW (pv 0) Za7 (Za8 (pv 3))) (pv 5)) (ZaO ZbW (pv 0) (Za8 (pv 3)) Za7)))) Zaj)
    (Zab (Zau (Zai ZcZ (pv 2) Zad (Zam _)) (Zae (Zal (Zap ZaT (ZaO ZbW (pv 0) Za7 (Za8 (pv 3))) (ZaO ZbW (pv 0) (Za8 (Zap ZaR (pv 3) Zad)) Za7)))) Zaj)
    (Zab (Zau (Zai ZcZ (pv 2) Zad (Zam _)) (Zae (Zal (Zap ZaT (Zap ZaT (ZaO ZbW (pv 0) Za7 (Za8 (pv 3))) (pv 5)) (ZaO ZbW (pv 0) (Za8 (Zap ZaR (pv 3) Zad)) Za7)))) Zaj)
    (Zab (Zau (Zai Za3 (pv 2) Zad (Zam _)) (Zae (Zal (ZiE (ZhU ZaB (ZhT (Zcw (pei ZaM) (Zcw (pei Zad) (Zcw (pei (Zch (Zaa (pv 0) Zac))) (Zcw (pei (Zc9 (Zaa (pv 0) Zac))) (Zg0 (.cons (.cons (.cons (.cons .nil))))))))) ) (pei (Zap ZaK (Zap ZaK (Zap Zbr (pv 1) Zad) Zad) Zad)) (fun _ _ => rfl))))) Zaj)
    (Zae (Zal (pv 0))))))))))),?_⟩
  have s9:20000 ≤ sizeLine:=by decide
  have sl:∀ lo hi,(Txt.slice z lo hi).length ≤ 9000:=fun lo hi => Nat.le_trans (Txt.slice_le z lo hi) zl
  have fin:∀ z':Str,z'.length ≤ 20000 → Q (.str z') H:=fun z' l => k H _ (Same.refl _) (.inl ⟨z',rfl,l⟩)
  refine ⟨_,rfl,_,_,rfl,rfl,.inr ⟨by decide,by decide⟩,_,_,rfl,rfl,(by show (0:Int) < _; decide),_,_,rfl,rfl,(by show (0:Int) < _; decide),?_⟩
  refine ⟨_,rfl,_,_,rfl,rfl,.inr ⟨by decide,by decide⟩,_,_,rfl,rfl,(by show (0:Int) < _; decide),_,rfl,z,rfl,by omega,_,_,rfl,rfl,_,_,rfl,rfl,(show (z.length:Int) + 1 ≠ 0 by omega),?_⟩
  refine Zg7 (fun v => ∃ y:Str,v = .str y ∧ 0 < y.length ∧ y.length ≤ 900) ?h1 ?h2
  case h2 =>
    refine ⟨_,rfl,?_,?_⟩
    · decide +kernel
    · decide +kernel
  rintro _ ⟨y,rfl,y0,y9⟩
  have hly:=L2.len_list y
  obtain ⟨n,e,_⟩:=Zho (xs:=y.cps.toList) (by omega) (c * 30341 % 65587)
  rw [← hly] at e
  refine ⟨_,rfl,_,rfl,_,_,rfl,rfl,.inr ⟨by decide,by decide⟩,_,_,rfl,rfl,(by show (0:Int) < _; decide),_,rfl,y,rfl,by omega,_,_,rfl,rfl,(show (y.length:Int) ≠ 0 by omega),y,_,n,rfl,rfl,by omega,e,?_⟩
  have l1:(⟨#[n]⟩:Str).length = 1:=rfl
  refine ⟨_,rfl,_,_,rfl,rfl,_,rfl,Zar (fun _ => ?_) (fun _ => ?_)⟩
  · have a1:=sl none (some ((c * 30323 % 65581).fmod ((z.length:Int) + 1)))
    have a2:=sl (some ((c * 30323 % 65581).fmod ((z.length:Int) + 1))) none
    refine ⟨_,rfl,_,rfl,_,rfl,z,rfl,by omega,_,rfl,_,_,rfl,rfl,by omega,_,rfl,_,rfl,_,rfl,z,rfl,by omega,_,_,rfl,rfl,?_,fin _ ?_⟩
    · rw [Zas]; omega
    · rw [Zas,Zas]; omega
  refine ⟨_,rfl,_,_,rfl,rfl,_,rfl,Zar (fun _ => ?_) (fun _ => ?_)⟩
  · have a1:=sl none (some ((c * 30323 % 65581).fmod ((z.length:Int) + 1)))
    have a2:=sl (some ((c * 30323 % 65581).fmod ((z.length:Int) + 1) + 1)) none
    refine ⟨_,rfl,_,rfl,_,rfl,z,rfl,by omega,_,rfl,_,rfl,_,_,rfl,rfl,_,rfl,z,rfl,by omega,_,_,rfl,rfl,by omega,fin _ ?_⟩
    rw [Zas]; omega
  refine ⟨_,rfl,_,_,rfl,rfl,_,rfl,Zar (fun _ => ?_) (fun _ => ?_)⟩
  · have a1:=sl none (some ((c * 30323 % 65581).fmod ((z.length:Int) + 1)))
    have a2:=sl (some ((c * 30323 % 65581).fmod ((z.length:Int) + 1) + 1)) none
    refine ⟨_,rfl,_,rfl,_,rfl,z,rfl,by omega,_,rfl,_,_,rfl,rfl,by omega,_,rfl,_,rfl,_,_,rfl,rfl,_,rfl,z,rfl,by omega,_,_,rfl,rfl,?_,fin _ ?_⟩
    · rw [Zas]; omega
    · rw [Zas,Zas]; omega
  refine ⟨_,rfl,rfl,_,rfl,Zar (fun _ => ?_) (fun _ => ⟨_,rfl,fin z (by omega)⟩)⟩
  refine ⟨_,rfl,(by show 1 ≤ sizeLine; decide),fun a na => ?_⟩
  have Sa:=Zak na (.lst [.str z])
  have qa:=Zaf (H:=H) (a:=a) (o:=.lst [.str z])
  generalize upd H a _ = H1 at *
  refine ⟨_,rfl,(by show 1 ≤ sizeLine; decide),fun b nb => ?_⟩
  have Sb:=Zak nb (.tup [.str z])
  have qb:=Zaf (H:=H1) (a:=b) (o:=.tup [.str z])
  generalize upd H1 b _ = H2 at *
  obtain ⟨l2,e2,n2,s2⟩:∃ l:List Str,l = [Str.ofString "", Str.ofString ";", Str.ofString "; ", Str.ofString " "] ∧ l.length = 4 ∧ ∀ z ∈ l,z.length ≤ 20000:=⟨_,rfl,rfl,by decide +kernel⟩
  rw [← e2]
  have ln:(V.non :: .int 7 :: .ref a :: .ref b :: l2.map V.str).length = 8:=by
    simp only [List.length_cons,List.length_map,n2]
  refine ⟨by rw [ln]; decide,fun d nd' => ?_⟩
  have Sd:=Zak nd' (.lst (V.non :: .int 7 :: .ref a :: .ref b :: l2.map V.str))
  have qd:=Zaf (H:=H2) (a:=d) (o:=.lst (V.non :: .int 7 :: .ref a :: .ref b :: l2.map V.str))
  generalize upd H2 d _ = H3 at *
  obtain ⟨v,ev,hv⟩:=Zho (xs:=V.non :: .int 7 :: .ref a :: .ref b :: l2.map V.str) (by omega) (c * 30269 % 65563)
  rw [ln,Int.fmod_eq_emod_of_nonneg _ (by decide)] at ev
  refine ⟨_,rfl,_,_,rfl,rfl,.inr ⟨by decide,by decide⟩,_,_,rfl,rfl,(by show (0:Int) < _; decide),_,_,rfl,rfl,(by show (0:Int) < _; decide),d,_,_,v,rfl,rfl,SqL.of qd,ev,k H3 v (Sa.trans (Sb.trans Sd)) ?_⟩
  rcases List.mem_cons.mp hv with rfl | hv
  · exact .inr ⟨"NoneType", .of .non,Zbj K (by decide +kernel) (by decide +kernel) (by decide +kernel)⟩
  rcases List.mem_cons.mp hv with rfl | hv
  · exact .inr ⟨"int", .of (.int _),Zbj K (by decide +kernel) (by decide +kernel) (by decide +kernel)⟩
  rcases List.mem_cons.mp hv with rfl | hv
  · exact .inr ⟨"list", .of (.lst ((Sb.trans Sd) _ _ qa)),Zbj K (by decide +kernel) (by decide +kernel) (by decide +kernel)⟩
  rcases List.mem_cons.mp hv with rfl | hv
  · exact .inr ⟨"tuple", .of (.tup (Sd _ _ qb)),Zbj K (by decide +kernel) (by decide +kernel) (by decide +kernel)⟩
  · obtain ⟨z',hz',rfl⟩:=List.mem_map.mp hv
    exact .inl ⟨z',rfl,s2 z' hz'⟩
theorem sc_l_told:FnScope ["_law_prime_here", "_law_text_here", "_law_table", "_law_part", "_law_row"] ["_law_prime_here", "_law_text_here"] (Zag ZdD):=⟨rfl,rfl,rfl,by decide +kernel,rfl,by decide +kernel,by decide +kernel⟩
theorem ZeM (h:Here K mg "_law_told" ZdD) (T:Nm mg) (Ts:mg "str" = none) (h_l_number_told:Has P w K mg base "_law_number_told" 2 ["_law_prime_here", "_law_text_here"] Zdl):Has P w K mg base "_law_told" 3 ["_law_prime_here", "_law_text_here"] (ZbR K):=by
  refine h.has (fun f fd F => F.binds fun _ _ _ _ _ _ us hl => by obtain ⟨_,_,rfl⟩:=Zdu hl; exact rfl) fun f fd F => F.ok sc_l_told (fun vs H Q E h => ?_) (fun cdv A outer s H vs Q E hr h => ?_)
  · obtain ⟨_,_,rfl,_⟩:=h
    rfl
  obtain ⟨p,v,rfl,pk,tv,kN,kY⟩:=h
  have nd:=sc_l_told.nd
  refine ⟨_,(Zab (Zau (ZaQ (ZaN (Zah Zat (by rfl) T.isinstance boot_isinstance (Zaa (pv 1) (Zaa (Zb7 (by rfl) Ts boot_str) Zac))))) (Zae (Zal ZaM)) Zaj)
    (Zab (Zaq (i:=2) nd rfl (Or.inl rfl) (Zch Zac))
    (Zab (ZcA PassesOwn.never rfl (ZaF (ZbT PySem.F.plainAttrs_str PySem.F.slot_str_split PySem.F.type_str_split ZbE (pv 1) (Zaa Zax Zac))) (Zaw (i:=3) nd rfl (Or.inl rfl)) (Zab (Zb9 (i:=4) ["_law_word"] [(0, "_law_prime_here")] nd rfl rfl rfl (ZaF (ZbT PySem.F.plainAttrs_str PySem.F.slot_str_split PySem.F.type_str_split ZbE (pv 3) (Zaa Zax Zac))) (by exact fun _ _ _ _ => (Zaw (i:=0) (show (["_law_word", "_law_prime_here"]:List Str).Nodup by decide +kernel) rfl (Or.inl rfl))) (by exact fun _ _ _ _ => (Zay h_l_number_told hr (by rfl) (Zaa (pv 1) (Zaa (pv 0) Zac)))) ⟨⟨rfl,rfl,Or.inl rfl⟩,trivial⟩)
      (Zab (Zau (ZbK (Zai (ZiC hr) ZaM (pv 4) (by rfl)) (Zbf (Zai ZbL (Zah Zao (by rfl) T.len boot_len (Zaa (pv 4) Zac)) Zad (Zam _)))).pt (Zae (Zal ZaM)) Zaj)
      (Zae (Zcz (ZbT PySem.F.plainAttrs_list PySem.F.slot_list_append PySem.F.type_list_append ZcG (pv 2) (Zaa (pv 4) Zac)))))))
    (Zab (Zau (Zai ZbL (Zah Zao (by rfl) T.len boot_len (Zaa (pv 2) Zac)) Zad (Zam _)) (Zae (Zal ZaM)) Zaj)
    (Zab (ZcA PassesOwn.never rfl (ZaF (pv 2)) (Zaw (i:=4) nd rfl (Or.inl rfl)) (Zae (Zau (Zai ZcC (Zah Zao (by rfl) T.len boot_len (Zaa (pv 4) Zac)) (Zah Zao (by rfl) T.len boot_len (Zaa (ZaI ZaB (pv 2) Zad (fun _ _ => rfl)) Zac)) (Zam _)) (Zae (Zal ZaM)) Zaj)))
    (Zae (Zal (pv 2)))))))),?_⟩
  by_cases iss:∃ z,v = .str z
  case neg =>
    rcases tv with ⟨z,rfl,_⟩ | ⟨Ty,ty,kit⟩
    · exact absurd ⟨z,rfl⟩ iss
    · exact ⟨_,rfl,_,_,_,_,rfl,ty,.ty kit,_,rfl,Zb5 (kN (fun z e => absurd ⟨z,e⟩ iss) H (Same.refl _))⟩
  obtain ⟨z,rfl⟩:=iss
  have zl:=tv.len
  have kN:¬ Zfy p z → ∀ H',Same H H' → Q .non H':=fun n => kN (fun z' e => by cases e; exact n)
  have kY:=kY z rfl
  have s9:20003 ≤ sizeLine:=by decide
  refine ⟨_,rfl,_,_,_,_,rfl,.of (.str z),.ty (ZaD K _),_,rfl,Zcj ?_⟩
  refine ⟨(by show 0 ≤ sizeLine; decide),fun t nt => ?_⟩
  have St:=Zak nt (.lst [])
  have qt:=Zaf (H:=H) (a:=t) (o:=.lst [])
  generalize upd H t _ = H1 at *
  refine ⟨_,rfl,rfl,_,_,rfl,rfl,(by decide +kernel),by omega,fun D nD => ?_⟩
  have short:∀ a ∈ Txt.split z "; ", a.length ≤ 20000:=fun a ha => Nat.le_trans (part_short ha) zl
  have psl:(Txt.split z "; ").length ≤ 20002:=Zd7 z "; " (by omega)
  have ne0:Txt.split z "; " ≠ []:=Ze8 z (by decide +kernel)
  have rdt:∀ {H' t rs R},H' t = some (.lst (rs.map V.ref)) → AlG (fun r row => H' r = some (.lst row)) rs R → AlG (fun q row => RdR p q H' row) (Txt.split z "; ") R → RdT p z H' t rs R:=fun a b c => ⟨a,b,c⟩
  have kN:¬ ((Txt.split z "; ").length ≤ 7 ∧ (∀ q ∈ Txt.split z "; ", Zcf p q) ∧ ∃ m,∀ q ∈ Txt.split z "; ", (Txt.split q " ").length = m) → ∀ H',Same H H' → Q .non H':=kN
  have kY:((Txt.split z "; ").length ≤ 7 ∧ (∀ q ∈ Txt.split z "; ", Zcf p q) ∧ ∃ m,∀ q ∈ Txt.split z "; ", (Txt.split q " ").length = m) → ∀ H' t rs R,Same H H' → RdT p z H' t rs R → Q (.ref t) H':=kY
  generalize Txt.split z "; " = ps at *
  have SD:=Zak nD (.lst (ps.map V.str))
  have qD:=Zaf (H:=H1) (a:=D) (o:=.lst (ps.map V.str))
  have qt:=SD _ _ qt
  have nDt:D ≠ t:=fun e => by subst e; rw [Zaf] at qt; cases ps <;> cases qt; exact absurd rfl ne0
  generalize upd H1 D _ = H2 at *
  have S02:=St.trans SD
  refine ⟨D,rfl,⟨_,SqL.of qD⟩,?_⟩
  refine Zdm (xs:=ps.map V.str) (fun i σ H' => ∃ (z3 z4:Option V) (rs:List Addr) (R:List (List V)),σ = [some (.int p),some (.str z),some (.ref t),z3,z4] ∧ Same H H' ∧ H' D = some (.lst (ps.map V.str)) ∧ H' t = some (.lst (rs.map V.ref)) ∧ AlG (fun r row => H' r = some (.lst row)) rs R ∧ AlG (fun q row => RdR p q H' row) (ps.take i) R ∧ t ∉ rs ∧ ∀ q ∈ ps.take i,Zcf p q) ⟨_,_,[],[],rfl,S02,qD,qt,AlG.nil,AlG.nil,by simp,fun r hr => absurd hr (by simp)⟩ ?_ ?_ ?_
  · rintro i σ H' - ⟨z3,z4,rs,R,rfl,S',qD',_⟩
    exact SqL.of qD'
  · rintro i x σ H3 hx ⟨z3,z4,rs,R,rfl,S3,qD3,qt3,a1,a2,nt3,n3⟩
    rw [List.getElem?_map] at hx
    cases hh:ps[i]? with
    | none => rw [hh] at hx; cases hx
    | some pt =>
    rw [hh] at hx
    obtain rfl:V.str pt = x:=Option.some.inj hx
    have mp:=List.mem_of_getElem? hh
    have hi:=(List.getElem?_eq_some_iff.mp hh).1
    have ptl:=short pt mp
    have wsl:(Txt.split pt " ").length ≤ 20002:=Zd7 pt " " (by omega)
    have wshort:∀ a ∈ Txt.split pt " ", a.length ≤ 20000:=fun a ha => Nat.le_trans (part_short ha) ptl
    refine ⟨_,rfl,rfl,_,_,rfl,rfl,(by decide +kernel),by omega,fun W nW => ?_⟩
    have rok:Zcf p pt → ((Txt.split pt " ").length ≤ 7 ∧ ∀ w ∈ Txt.split pt " ", ¬ Nor p w.cps.toList):=id
    have okr:((Txt.split pt " ").length ≤ 7 ∧ ∀ w ∈ Txt.split pt " ", ¬ Nor p w.cps.toList) → Zcf p pt:=id
    have rdr:∀ {H' row},AlG (fun (w:Str) v => Rdn p w.cps.toList H' v) (Txt.split pt " ") row → RdR p pt H' row:=id
    generalize Txt.split pt " " = ws at *
    have SW:=Zak nW (.lst (ws.map V.str))
    have qW:=Zaf (H:=H3) (a:=W) (o:=.lst (ws.map V.str))
    generalize upd H3 W _ = H4 at *
    refine ⟨W,rfl,⟨_,SqL.of qW⟩,?_⟩
    refine Zdg (xs:=ws.map V.str) (fun j ys H' => Same H4 H' ∧ AlG (fun (w:Str) v => (Nor p w.cps.toList ∧ v = .non) ∨ Rdn p w.cps.toList H' v) (ws.take j) ys) (by rw [List.length_map]; omega) ⟨Same.refl _,AlG.nil⟩ ?_ ?_ ?_
    · rintro j ys H' - ⟨S',_⟩
      exact SqL.of (S' _ _ qW)
    · rintro j x ys H5 hx hy ⟨S5,al⟩
      rw [List.getElem?_map] at hx
      cases hw:ws[j]? with
      | none => rw [hw] at hx; cases hx
      | some wd =>
      rw [hw] at hx
      obtain rfl:V.str wd = x:=Option.some.inj hx
      have mono:∀ {H6},Same H5 H6 → AlG (fun (w:Str) v => (Nor p w.cps.toList ∧ v = .non) ∨ Rdn p w.cps.toList H6 v) (ws.take j) ys:=fun S => al.mono fun _ _ q => q.imp id fun q => q.same S
      exact ⟨_,rfl,_,rfl,p,wd,rfl,pk,wshort wd (List.mem_of_getElem? hw),fun nor H6 S6 => ⟨S5.trans S6,(mono S6).step hw (.inl ⟨nor,rfl⟩)⟩,fun H6 v' S6 rd => ⟨S5.trans S6,(mono S6).step hw (.inr rd)⟩⟩
    rintro ys H5 hy ⟨S5,al⟩
    rw [List.length_map,List.take_length] at al
    intro L nL
    have SL:=Zak nL (.lst ys)
    have qL:=Zaf (H:=H5) (a:=L) (o:=.lst ys)
    have nLt:L ≠ t:=fun e => by subst e; rw [(SW.trans S5) _ _ qt3] at nL; cases nL
    have nLD:L ≠ D:=fun e => by subst e; rw [(SW.trans S5) _ _ qD3] at nL; cases nL
    generalize upd H5 L _ = H6 at *
    have al:=al.mono (S:=fun (w:Str) v => (Nor p w.cps.toList ∧ v = .non) ∨ Rdn p w.cps.toList H6 v) fun _ _ q => q.imp id fun q => q.same SL
    have S36:=SW.trans (S5.trans SL)
    have one:∀ v ∈ ys,Zjh K H6 v:=fun v hv => by
      obtain ⟨j,hj⟩:=List.getElem?_of_mem hv
      obtain ⟨wd,_,q⟩:=al.getR hj
      rcases q with ⟨_,rfl⟩ | ⟨_,n,_,_,rfl⟩ | ⟨_,r,_,_,_,rfl,q⟩
      · exact .inl rfl
      · exact .inr (.inl ⟨_,rfl⟩)
      · exact .inr (.inr ⟨r,_,rfl,SqT.of q⟩)
    refine ⟨_,rfl,rfl,L,ys,rfl,SqL.of qL,one,_,rfl,?_⟩
    refine Zar (fun hn => Zb5 (kN (fun q => ?_) H6 (S3.trans S36))) (fun hn => ?_)
    · obtain ⟨j,hj⟩:=List.getElem?_of_mem hn
      obtain ⟨wd,hwd,q'⟩:=al.getR hj
      rcases q' with ⟨nor,_⟩ | q'
      · exact (rok (q.2.1 pt mp)).2 wd (List.mem_of_getElem? hwd) nor
      · rcases q' with ⟨_,n,_,_,e⟩ | ⟨_,r,_,_,_,e,_⟩ <;> cases e
    refine ⟨_,rfl,L,ys,rfl,.inl (SqL.of qL),_,_,rfl,rfl,_,rfl,?_⟩
    refine Zar (fun h7 => kN (fun q => ?_) H6 (S3.trans S36)) (fun h7 => ?_)
    · have h7:(7:Int) < (ys.length:Int):=h7
      have:=(rok (q.2.1 pt mp)).1
      have:=al.1
      omega
    have h7:¬ (7:Int) < (ys.length:Int):=h7
    have rd:AlG (fun (w:Str) v => Rdn p w.cps.toList H6 v) ws ys:=⟨al.1,fun j wd v hw hv => by
      rcases al.2 j wd v hw hv with ⟨_,rfl⟩ | q
      · exact absurd (List.mem_of_getElem? hv) hn
      · exact q⟩
    have okp:Zcf p pt:=okr ⟨by have:=al.1; omega,fun wd hw nor => by
      obtain ⟨y,_,q⟩:=rd.of_mem hw
      exact nor.rdn q⟩
    have l1:=a1.1
    have l2:=a2.1
    rw [List.length_take] at l2
    refine ⟨_,rfl,.inl ⟨rfl,_,SqL.of (S36 _ _ qt3)⟩,_,rfl,t,_,.ref L,rfl,rfl,S36 _ _ qt3,by rw [List.length_map]; omega,?_⟩
    have keep:∀ b o,b ≠ t → H6 b = some o → upd H6 t (.lst (rs.map V.ref ++ [.ref L])) b = some o:=fun b o hb q => by rw [Zan hb]; exact q
    have keepR:∀ {w v},Rdn p w H6 v → Rdn p w (upd H6 t (.lst (rs.map V.ref ++ [.ref L]))) v:=fun q => by
      rcases q with q | ⟨p0,r,x,y,e,ev,q⟩
      · exact .inl q
      · exact .inr ⟨p0,r,x,y,e,ev,keep r _ (fun z => by subst z; rw [S36 _ _ qt3] at q; cases q) q⟩
    refine ⟨_,_,rs ++ [L],R ++ [ys],rfl,fun b o q => keep b o (fun z => by subst z; rw [nt] at q; cases q) ((S3.trans S36) _ _ q),keep D _ nDt (S36 _ _ qD3),by rw [Zaf,List.map_append]; rfl,AlG.snoc ⟨l1,fun j r row hr hrow => keep r _ (fun z => nt3 (z ▸ List.mem_of_getElem? hr)) (S36 _ _ (a1.2 j r row hr hrow))⟩ (keep L _ nLt qL),?_,?_,fun q hq => ?_⟩
    · exact (a2.mono fun _ _ q => (RdR.same q S36).mono fun _ _ q => keepR q).step hh (rdr (rd.mono fun _ _ q => keepR q))
    · intro q
      rcases List.mem_append.mp q with q | q
      · exact nt3 q
      · exact nLt (List.mem_singleton.mp q).symm
    · rw [List.take_add_one,hh] at hq
      rcases List.mem_append.mp hq with hq | hq
      · exact n3 q hq
      · rw [List.mem_singleton.mp hq]; exact okp
  rintro σ H3 ⟨z3,z4,rs,R,rfl,S3,qD3,qt3,a1,a2,nt3,n3⟩
  rw [List.length_map,List.take_length] at a2 n3
  have l1:=a1.1
  have l2:=a2.1
  refine ⟨_,rfl,t,_,rfl,.inl (SqL.of qt3),_,_,rfl,rfl,_,rfl,?_⟩
  rw [List.length_map]
  refine Zar (fun h7 => kN (fun q => ?_) H3 S3) (fun h7 => ?_)
  · have h7:(7:Int) < (rs.length:Int):=h7
    have:=q.1
    omega
  have h7:¬ (7:Int) < (rs.length:Int):=h7
  obtain ⟨q0,pr,rfl⟩:∃ q0 pr,ps = q0 :: pr:=by
    cases ps with
    | nil => exact absurd rfl ne0
    | cons a b => exact ⟨a,b,rfl⟩
  obtain ⟨row0,hr0,rd0⟩:=a2.get (i:=0) rfl
  obtain ⟨r0,hr0',q0'⟩:=a1.getR hr0
  have lens:∀ {j:Nat} {q row},(q0 :: pr)[j]? = some q → R[j]? = some row → (Txt.split q " ").length = row.length:=fun hq hr => (a2.2 _ _ _ hq hr).1
  refine ⟨_,rfl,t,rfl,⟨_,SqL.of qt3⟩,?_⟩
  refine Zdm (xs:=rs.map V.ref) (fun i σ H' => ∃ z4:Option V,σ = [some (.int p),some (.str z),some (.ref t),z3,z4] ∧ H3 = H' ∧ ∀ row ∈ R.take i,row.length = row0.length) ⟨_,rfl,rfl,fun r hr => absurd hr (by simp)⟩ ?_ ?_ ?_
  · rintro i σ _ - ⟨z4,rfl,rfl,_⟩
    exact SqL.of qt3
  · rintro i x σ _ hx ⟨z4,rfl,rfl,hlen⟩
    rw [List.getElem?_map] at hx
    cases hh:rs[i]? with
    | none => rw [hh] at hx; cases hx
    | some r =>
    rw [hh] at hx
    obtain rfl:V.ref r = x:=Option.some.inj hx
    obtain ⟨row,hrow,hr'⟩:=a1.get hh
    refine ⟨_,rfl,r,_,rfl,.inl (SqL.of hr'),_,rfl,t,_,_,_,rfl,rfl,SqL.of qt3,ZaA (j:=0) (by rw [List.getElem?_map,hr0']; rfl),r0,_,rfl,.inl (SqL.of q0'),rfl,_,rfl,?_⟩
    refine ZaJ (fun e => kN (fun q => e ?_) H3 S3) (fun e => ⟨_,rfl,rfl,fun row' hrow' => ?_⟩)
    · obtain ⟨_,_,m,hm⟩:=q
      obtain ⟨q,hq,_⟩:=a2.getR hrow
      rw [← lens hq hrow,hm q (List.mem_of_getElem? hq),← lens (j:=0) rfl hr0,hm q0 (.head _)]
    · rw [List.take_add_one,hrow] at hrow'
      rcases List.mem_append.mp hrow' with z | z
      · exact hlen row' z
      · rw [List.mem_singleton.mp z]
        have:=V.int.inj e
        omega
  · rintro σ _ ⟨z4,rfl,rfl,hlen⟩
    rw [List.length_map,l1,List.take_length] at hlen
    refine ⟨_,rfl,kY ⟨by omega,n3,row0.length,fun q hq => ?_⟩ H3 t rs R S3 (rdt qt3 a1 a2)⟩
    obtain ⟨i,hi⟩:=List.getElem?_of_mem hq
    obtain ⟨row,hrow,_⟩:=a2.get hi
    rw [lens hi hrow,hlen row (List.mem_of_getElem? hrow)]
end
end My
namespace My
open PySem L2 PyProof.Rows
theorem Zbb {rs:List Addr} {i:Nat} {x:V} (h:(rs.map V.ref)[i]? = some x):∃ a,rs[i]? = some a ∧ x = .ref a:=by
  rw [List.getElem?_map] at h
  cases hh:rs[i]? with
  | none => rw [hh] at h; cases h
  | some a => rw [hh] at h; exact ⟨a,rfl,(Option.some.inj h).symm⟩
theorem Zgz {rs:List Addr} (nd:rs.Nodup) {i j:Nat} {a:Addr} (hi:rs[i]? = some a) (hj:rs[j]? = some a):i = j:=by
  obtain ⟨h1,e1⟩:=List.getElem?_eq_some_iff.mp hi
  obtain ⟨h2,e2⟩:=List.getElem?_eq_some_iff.mp hj
  exact (List.getElem_inj nd).mp (e1.trans e2.symm)
theorem RdT.eqs {p:Int} {z:Str} {H:Hp} {f d:Addr} {r1 r2:List Addr} {R1 R2:List (List V)} (h1:RdT p z H f r1 R1) (h2:RdT p z H d r2 R2):R1.length = R2.length ∧ ∀ (i:Nat) u v,R1[i]? = some u → R2[i]? = some v → AlG (NuEq H p) u v:=by
  refine ⟨h1.n.1.symm.trans h2.n.1,fun i u v hu hv => ?_⟩
  obtain ⟨q,hq,a⟩:=h1.n.getR hu
  have b:=h2.n.2 i q v hq hv
  refine ⟨a.1.symm.trans b.1,fun j x y hx hy => ?_⟩
  obtain ⟨w,hw,rx⟩:=a.getR hx
  exact rx.eq (b.2 j w y hw hy)
def ZbA:Sp:=fun vs H Q _ => ∃ (p:Int) (f d:Addr) (r1 r2:List Addr) (R1 R2:List (List V)),vs = [.int p,.ref f,.ref d] ∧ H f = some (.lst (r1.map V.ref)) ∧ AlG (fun r row => H r = some (.lst row)) r1 R1 ∧ H d = some (.lst (r2.map V.ref)) ∧ AlG (fun r row => H r = some (.lst row)) r2 R2 ∧ R1.length = R2.length ∧ (∀ (i:Nat) u v,R1[i]? = some u → R2[i]? = some v → AlG (NuEq H p) u v) ∧
  r1.Nodup ∧ f ∉ r1 ∧ d ∉ r1 ∧ (∀ r ∈ r2,r ∉ r1) ∧ R1.length ≤ 7 ∧ (∀ row ∈ R1,row.length ≤ 7) ∧ ∀ H',Off r1 H H' → Q (.bl true) H'
theorem EqD.int {K:PySem.W.Frag} {H:Hp} {i j:Int} (h:i = j):EqD K H 8 (.int i) (.int j):=.inl ⟨by rw [h],.inl ⟨i,rfl⟩⟩
theorem ZgA {α β:Type} {R:α → β → Prop}:∀ {xs:List α},(∀ x ∈ xs,∃ y,R x y) → ∃ ys,AlG R xs ys
  | [],_ => ⟨[],AlG.nil⟩
  | x :: xs,h => by
    obtain ⟨y,r⟩:=h x (.head _)
    obtain ⟨ys,a⟩:=ZgA fun z hz => h z (.tail _ hz)
    refine ⟨y :: ys,by simp [a.1],fun i u v hu hv => ?_⟩
    cases i with
    | zero => cases hu; cases hv; exact r
    | succ i => exact a.2 i u v (by simpa using hu) (by simpa using hv)
theorem Nu.rp {H:Hp} {p:Int} {v:V} (h:Nu H p v):∃ d,Rp H 2 v d:=by
  rcases h with ⟨_,t,a,b,rfl,q,_⟩ | ⟨_,x,rfl,_⟩
  · refine ⟨.tuple [.int a,.int b],.inr (.inr ⟨t,_,_,rfl,rfl,q,rfl,fun i u e hu he => ?_⟩)⟩
    match i,hu,he with
    | 0,hu,he => cases hu; cases he; exact .inl (.inr (.inr (.inl ⟨_,rfl,rfl⟩)))
    | 1,hu,he => cases hu; cases he; exact .inl (.inr (.inr (.inl ⟨_,rfl,rfl⟩)))
  · exact ⟨.int x,.inl (.inr (.inr (.inl ⟨_,rfl,rfl⟩)))⟩
theorem RTb.rp2 {H:Hp} {p:Int} {t t':Addr} {rs rs':List Addr} {R:List (List V)} (h:RTb H p t rs R) (h':RTb H p t' rs' R):∃ d,Rp H 8 (.ref t) d ∧ Rp H 8 (.ref t') d:=by
  obtain ⟨ds,a⟩:=ZgA (xs:=R) (R:=fun row (d:List PyData) => AlG (Rp H 2) row d) fun row hr => ZgA fun v hv => (h.n row hr v hv).rp
  have go:∀ {t rs},RTb H p t rs R → Rp H 4 (.ref t) (.list (ds.map PyData.list)):=fun {t rs} h => by
    refine .inr (.inl ⟨t,_,_,rfl,rfl,h.l,by rw [List.length_map,List.length_map,h.r.1,a.1],fun i u e hu he => ?_⟩)
    obtain ⟨r,hr,rfl⟩:=Zbb hu
    rw [List.getElem?_map] at he
    cases hd:ds[i]? with
    | none => rw [hd] at he; cases he
    | some d =>
    rw [hd] at he
    obtain rfl:PyData.list d = e:=Option.some.inj he
    obtain ⟨row,hrow,qr⟩:=h.r.get hr
    have ar:=a.2 i row d hrow hd
    exact .inr (.inl ⟨r,row,d,rfl,rfl,qr,ar.1,ar.2⟩)
  exact ⟨_,(go h).mono (by decide),(go h').mono (by decide)⟩
end My
namespace My
open PySem L2 PyProof.Rows
def ZbH:Sp:=fun vs H Q _ => ∃ (p:Int) (x y:V),vs = [.int p,x,y] ∧ NuEq H p x y ∧ Q (.bl true) H
section
variable {P:Program} {w:World} {K:PySem.W.Frag} {mg:Str → Option Value} {base:Heap}
theorem Zc5:FnScope ["_law_prime_here", "_law_found", "_law_due"] ["_law_prime_here", "_law_found", "_law_due"] (Zag Zbq):=⟨rfl,rfl,rfl,by decide +kernel,rfl,by decide +kernel,by decide +kernel⟩
theorem Zc6 (h:Here K mg "_law_number_is" Zbq) (T:Nm mg) (h_l_whole:Has P w K mg base "_law_whole" 1 ["_law_found"] Zcx):Has P w K mg base "_law_number_is" 2 ["_law_prime_here", "_law_found", "_law_due"] ZbH:=by
  refine h.has (fun f fd F => F.binds fun _ _ _ _ _ _ us hl => by obtain ⟨_,_,_,rfl⟩:=ZiQ hl; exact rfl) fun f fd F => F.ok Zc5 (fun vs H Q E h => ?_) (fun cdv A outer s H vs Q E hr h => ?_)
  · obtain ⟨_,_,_,rfl,_⟩:=h
    rfl
  obtain ⟨p,x,y,rfl,he,k⟩:=h
  refine ⟨_,(Zab (Zau (Zai ZbL (pv 0) Zad (Zam _)) (Zae (Zal (ZbS (Zay h_l_whole hr (by rfl) (Zaa (pv 1) Zac)) (Zcg (Zbk Za3 (pv 1) (pv 2) (Zam _)))))) Zaj)
    (Zab (Zau (ZbK (ZaQ (ZaN (Zah Zat (by rfl) T.isinstance boot_isinstance (Zaa (pv 1) (Zaa (Zb7 (by rfl) T.tuple boot_tuple) Zac))))) (Zbf (Zai ZcC (Zah Zao (by rfl) T.len boot_len (Zaa (pv 1) Zac)) Zad (Zam _)))).pt (Zae (Zal Zcp)) Zaj)
    (Zae (Zal (ZbS (Zay h_l_whole hr (by rfl) (Zaa (ZaI Zci (pv 1) Zad (fun _ _ => rfl)) Zac)) (ZbS (Zay h_l_whole hr (by rfl) (Zaa (ZaI Zci (pv 1) Zad (fun _ _ => rfl)) Zac)) (Zcg (Zbk (Zis hr) (pv 1) (pv 2) (Zam _))))))))),?_⟩
  refine ⟨_,rfl,_,_,rfl,rfl,_,rfl,?_⟩
  rcases he with ⟨hp,i,rfl,rfl⟩ | ⟨rfl,a,b,c,d,rfl,rfl,h1,h2⟩
  · refine Zar (fun _ => ?_) (fun z => absurd hp z)
    refine ⟨_,rfl,i,rfl,_,rfl,Zb5 ?_⟩
    refine ⟨_,rfl,_,rfl,rfl,?_⟩
    rw [ZeV rfl]
    exact k
  · refine Zar (fun z => absurd z (by decide)) (fun _ => ?_)
    have sq:SqT K H a [.int c,.int d]:=SqT.of h1
    have sq2:SqT K H b [.int c,.int d]:=SqT.of h2
    refine ⟨_,rfl,_,_,_,_,rfl,.of (.tup h1),.ty (ZaD K _),_,rfl,Zcj ?_⟩
    refine ⟨_,rfl,_,_,rfl,.inr sq,rfl,_,rfl,Zcj ?_⟩
    refine ⟨_,rfl,_,_,_,_,rfl,rfl,sq,rfl,c,rfl,_,rfl,Zb5 ?_⟩
    refine ⟨_,rfl,_,_,_,_,rfl,rfl,sq,rfl,d,rfl,_,rfl,Zb5 ?_⟩
    refine ⟨_,rfl,_,rfl,a,b,c,d,c,d,rfl,rfl,sq,sq2,?_⟩
    rw [show decide (c = c ∧ d = d) = true by simp]
    exact k
end
section
variable {P:Program} {w:World} {K:PySem.W.Frag} {mg:Str → Option Value} {base:Heap} {CF CR CE cK cN cF cT cI cX cM cR:Addr}
theorem sc_l_table_is:FnScope ["_law_prime_here", "_law_found", "_law_due", "_law_row", "_law_right_here", "_law_number", "_law_known"] ["_law_prime_here", "_law_found", "_law_due"] (Zag Zbx):=⟨rfl,rfl,rfl,by decide +kernel,rfl,by decide +kernel,by decide +kernel⟩
theorem ZcY (h:Here K mg "_law_table_is" Zbx) (T:Nm mg) (Tz:mg "zip" = none) (h_l_number_is:Has P w K mg base "_law_number_is" 2 ["_law_prime_here", "_law_found", "_law_due"] ZbH):Has P w K mg base "_law_table_is" 3 ["_law_prime_here", "_law_found", "_law_due"] ZbA:=by
  refine h.has (fun f fd F => F.binds fun _ _ _ _ _ _ us hl => by obtain ⟨_,_,_,rfl⟩:=ZiQ hl; exact rfl) fun f fd F => F.ok sc_l_table_is (fun vs H Q E h => ?_) (fun cdv A outer s H vs Q E hr h => ?_)
  · obtain ⟨_,_,_,_,_,_,_,rfl,_⟩:=h
    rfl
  obtain ⟨p,f1,d1,r1,r2,R1,R2,rfl,t1,a1,t2,a2,lR,he,nd1,nf,ndd,nr,l7,l72,k⟩:=h
  have nd:=sc_l_table_is.nd
  refine ⟨_,(Zab (Zau (ZbK (ZaQ (ZaN (Zah Zat (by rfl) T.isinstance boot_isinstance (Zaa (pv 1) (Zaa (Zb7 (by rfl) T.list boot_list) Zac))))) (Zbf (Zai ZcC (Zah Zao (by rfl) T.len boot_len (Zaa (pv 1) Zac)) (Zah Zao (by rfl) T.len boot_len (Zaa (pv 2) Zac)) (Zam _)))).pt (Zae (Zal Zcp)) Zaj)
    (Zab (ZcA PassesOwn.never rfl (Zhg (by rfl) Tz (Zaa (pv 1) (Zaa (pv 2) Zac))) (Zg8 rfl (Zcr (Zaw (i:=3) nd rfl (Or.inl rfl)) (Zcr (Zaw (i:=4) nd rfl (Or.inl rfl)) ZfH))) (Zab (Zau (ZbK (ZaQ (ZaN (Zah Zat (by rfl) T.isinstance boot_isinstance (Zaa (pv 3) (Zaa (Zb7 (by rfl) T.list boot_list) Zac))))) (Zbf (Zai ZcC (Zah Zao (by rfl) T.len boot_len (Zaa (pv 3) Zac)) (Zah Zao (by rfl) T.len boot_len (Zaa (pv 4) Zac)) (Zam _)))).pt (Zae (Zal Zcp)) Zaj)
      (Zae (ZcA PassesOwn.never rfl (Zhg (by rfl) Tz (Zaa (pv 3) (Zaa (pv 4) Zac))) (Zg8 rfl (Zcr (Zaw (i:=5) nd rfl (Or.inl rfl)) (Zcr (Zaw (i:=6) nd rfl (Or.inl rfl)) ZfH))) (Zae (Zau (ZaQ (ZaN (Zay h_l_number_is hr (by rfl) (Zaa (pv 0) (Zaa (pv 5) (Zaa (pv 6) Zac)))))) (Zae (Zal Zcp)) Zaj))))))
    (Zab (ZcA PassesOwn.never rfl (ZaF (pv 1)) (Zaw (i:=3) nd rfl (Or.inl rfl)) (Zae (Zcz (ZbT PySem.F.plainAttrs_list PySem.F.slot_list_append PySem.F.type_list_append ZcG (pv 3) (Zaa ZaM Zac)))))
    (Zae (Zal (Zbk (Ziy hr) (Zbc ["_law_row"] [] rfl (ZaF (pv 1)) (by exact fun _ _ _ _ => (Zaw (i:=0) (show (["_law_row"]:List Str).Nodup by decide +kernel) rfl (Or.inl rfl))) (by exact fun _ _ _ _ => (Zah (ZaP K rfl) (by rfl) T.len boot_len (Zaa (pv 0) Zac))) trivial) (Zbc ["_law_right_here"] [] rfl (ZaF (pv 2)) (by exact fun _ _ _ _ => (Zaw (i:=0) (show (["_law_right_here"]:List Str).Nodup by decide +kernel) rfl (Or.inl rfl))) (by exact fun _ _ _ _ => (Zap ZaR (Zah (ZaP K rfl) (by rfl) T.len boot_len (Zaa (pv 0) Zac)) Zad)) trivial) (Zam _))))))),?_⟩
  have lr1:=a1.1
  have lr2:=a2.1
  have hl:r1.length = r2.length:=by omega
  refine ⟨_,rfl,_,_,_,_,rfl,.of (.lst t1),.ty (ZaD K _),_,rfl,Zcj ?_⟩
  refine ⟨_,rfl,_,_,rfl,.inl (SqL.of t1),_,rfl,_,_,rfl,.inl (SqL.of t2),rfl,_,rfl,?_⟩
  rw [List.length_map,List.length_map,hl]
  refine ZaJ (fun z => absurd rfl z) (fun _ => ?_)
  refine ⟨_,rfl,_,rfl,f1,d1,rfl,⟨_,SqL.of t1⟩,⟨_,SqL.of t2⟩,?_⟩
  refine Zgg (xs:=r1.map V.ref) (ys:=r2.map V.ref) (fun i σ H2 => ∃ z3 z4 z5 z6:Option V,σ = [some (.int p),some (.ref f1),some (.ref d1),z3,z4,z5,z6] ∧ Same H H2) ⟨none,none,none,none,rfl,Same.refl H⟩ ?_ ?_ ?_
  · rintro i σ H2 ⟨z3,z4,z5,z6,rfl,S⟩
    exact ⟨SqL.of (S _ _ t1),SqL.of (S _ _ t2)⟩
  · rintro i x y Tp σ H2 hx hy nT ⟨z3,z4,z5,z6,rfl,S⟩
    obtain ⟨a,ha,rfl⟩:=Zbb hx
    obtain ⟨b,hb,rfl⟩:=Zbb hy
    have ST:=Zak nT (.tup [.ref a,.ref b])
    refine ⟨Tp,_,rfl,SqT.of Zaf,rfl,_,_,rfl,_,_,rfl,rfl,?_⟩
    have S1:=S.trans ST
    generalize upd H2 Tp (.tup [.ref a,.ref b]) = H3 at *
    obtain ⟨u1,hu1,qu1⟩:=a1.get ha
    obtain ⟨u2,hu2,qu2⟩:=a2.get hb
    have q1:=S1 _ _ qu1
    have q2:=S1 _ _ qu2
    have eq12:=he i u1 u2 hu1 hu2
    refine ⟨_,rfl,_,_,_,_,rfl,.of (.lst q1),.ty (ZaD K _),_,rfl,Zcj ?_⟩
    refine ⟨_,rfl,_,_,rfl,.inl (SqL.of q1),_,rfl,_,_,rfl,.inl (SqL.of q2),rfl,_,rfl,?_⟩
    rw [eq12.1]
    refine ZaJ (fun z => absurd rfl z) (fun _ => ?_)
    refine ⟨_,rfl,_,rfl,a,b,rfl,⟨_,SqL.of q1⟩,⟨_,SqL.of q2⟩,?_⟩
    refine Zgg (xs:=u1) (ys:=u2) (fun j σ H4 => ∃ z5 z6:Option V,σ = [some (.int p),some (.ref f1),some (.ref d1),some (.ref a),some (.ref b),z5,z6] ∧ Same H3 H4) ⟨z5,z6,rfl,Same.refl H3⟩ ?_ ?_ ?_
    · rintro j σ H4 ⟨z5,z6,rfl,S4⟩
      exact ⟨SqL.of (S4 _ _ q1),SqL.of (S4 _ _ q2)⟩
    · rintro j u v Tq σ H4 hu hv nT4 ⟨z5,z6,rfl,S4⟩
      have S5:=Zak nT4 (.tup [u,v])
      refine ⟨Tq,_,rfl,SqT.of Zaf,rfl,_,_,rfl,_,_,rfl,rfl,?_⟩
      refine ⟨_,rfl,_,rfl,_,rfl,p,_,_,rfl,((eq12.2 j u v hu hv).same S1).same (S4.trans S5),_,rfl,Zcj ?_⟩
      exact ⟨_,_,rfl,S4.trans S5⟩
    · rintro j σ H4 - ⟨z5,z6,rfl,S4⟩
      exact ⟨_,_,_,_,rfl,S1.trans S4⟩
  rintro i σ H2 - ⟨z3,z4,z5,z6,rfl,S⟩
  have t1:=S _ _ t1
  have t2:=S _ _ t2
  have a1:=a1.mono fun _ _ q => S _ _ q
  have a2:=a2.mono fun _ _ q => S _ _ q
  refine ⟨_,rfl,f1,rfl,⟨_,SqL.of t1⟩,?_⟩
  refine Zdm (xs:=r1.map V.ref) (fun i σ H3 => ∃ z3:Option V,σ = [some (.int p),some (.ref f1),some (.ref d1),z3,z4,z5,z6] ∧ Off r1 H2 H3 ∧ ∀ (j:Nat) (r:Addr) (row:List V),r1[j]? = some r → R1[j]? = some row → H3 r = some (.lst (if j < i then row ++ [.non] else row))) ⟨_,rfl,fun _ _ _ q => q,fun j r row e e' => by simpa using a1.2 j r row e e'⟩ ?_ ?_ ?_
  · rintro i σ H3 - ⟨z3,rfl,O,-⟩
    exact SqL.of (O _ _ nf t1)
  · rintro i x σ H3 hx ⟨z3,rfl,O,hr1⟩
    obtain ⟨a,ha,rfl⟩:=Zbb hx
    obtain ⟨u1,hu1,_⟩:=a1.get ha
    have qa:H3 a = some (.lst u1):=by simpa using hr1 i a u1 ha hu1
    refine ⟨_,rfl,.inl ⟨rfl,_,SqL.of qa⟩,a,_,.non,rfl,rfl,qa,Nat.lt_of_le_of_lt (l72 u1 (List.mem_of_getElem? hu1)) (by decide),?_⟩
    refine ⟨_,rfl,fun b o nb q => ?_,fun j r row e e' => ?_⟩
    · rw [Zan (fun z => nb (by rw [z]; exact List.mem_of_getElem? ha))]
      exact O b o nb q
    · by_cases hj:j = i
      · subst hj
        rw [ha] at e; cases e
        rw [hu1] at e'; cases e'
        rw [Zaf,if_pos (by omega)]
      · have nra:r ≠ a:=fun z => by
          subst z
          exact hj (Zgz nd1 e ha)
        rw [Zan nra,hr1 j r row e e']
        congr 2
        by_cases h1:j < i
        · rw [if_pos h1,if_pos (by omega)]
        · rw [if_neg h1,if_neg (by omega)]
  rintro σ H3 ⟨z3,rfl,O,hr1⟩
  rw [List.length_map] at hr1
  have q1:=O _ _ nf t1
  have q2:=O _ _ ndd t2
  have b1:AlG (fun r row => H3 r = some (.lst (row ++ [.non]))) r1 R1:=⟨lr1,fun j r row e e' => by
    show H3 r = _
    rw [hr1 j r row e e',if_pos (List.getElem?_eq_some_iff.mp e).1]⟩
  have b2:AlG (fun r row => H3 r = some (.lst row)) r2 R2:=⟨lr2,fun j r row e e' => O _ _ (nr r (List.mem_of_getElem? e)) (a2.2 j r row e e')⟩
  refine ⟨_,rfl,f1,rfl,⟨_,SqL.of q1⟩,?_⟩
  refine ZaE (xs:=r1.map V.ref) (fun i ys H' => H3 = H' ∧ ys = ((R1.take i).map fun row => ((row.length + 1:Nat):Int)).map V.int) (by rw [List.length_map]; omega) ⟨rfl,rfl⟩ ?_ ?_ ?_
  · rintro i ys _ - ⟨rfl,_⟩
    exact SqL.of q1
  · rintro i x ys _ hx hy ⟨rfl,rfl⟩
    obtain ⟨a,ha,rfl⟩:=Zbb hx
    obtain ⟨row,hrow,qr⟩:=b1.get ha
    refine ⟨_,rfl,a,_,rfl,.inl (SqL.of qr),rfl,?_⟩
    rw [List.take_add_one,hrow,List.map_append,List.map_append,List.length_append]; rfl
  rintro ys _ hy ⟨rfl,rfl⟩
  rw [List.length_map,lr1,List.take_length]
  intro L1 nL1
  have SL1:=Zak nL1 (.lst ((R1.map fun row => ((row.length + 1:Nat):Int)).map V.int))
  have qL1:=Zaf (H:=H3) (a:=L1) (o:=.lst ((R1.map fun row => ((row.length + 1:Nat):Int)).map V.int))
  generalize upd H3 L1 _ = H4 at *
  refine ⟨_,rfl,d1,rfl,⟨_,SqL.of (SL1 _ _ q2)⟩,?_⟩
  refine ZaE (xs:=r2.map V.ref) (fun i ys H' => H4 = H' ∧ ys = ((R2.take i).map fun row => ((row.length + 1:Nat):Int)).map V.int) (by rw [List.length_map]; omega) ⟨rfl,rfl⟩ ?_ ?_ ?_
  · rintro i ys _ - ⟨rfl,_⟩
    exact SqL.of (SL1 _ _ q2)
  · rintro i x ys _ hx hy ⟨rfl,rfl⟩
    obtain ⟨a,ha,rfl⟩:=Zbb hx
    obtain ⟨row,hrow,qr⟩:=b2.get ha
    refine ⟨_,rfl,a,_,rfl,.inl (SqL.of (SL1 _ _ qr)),_,_,rfl,rfl,rfl,?_⟩
    rw [List.take_add_one,hrow,List.map_append,List.map_append]; rfl
  rintro ys _ hy ⟨rfl,rfl⟩
  rw [List.length_map,lr2,List.take_length]
  intro L2 nL2
  have SL2:=Zak nL2 (.lst ((R2.map fun row => ((row.length + 1:Nat):Int)).map V.int))
  have qL2:=Zaf (H:=H4) (a:=L2) (o:=.lst ((R2.map fun row => ((row.length + 1:Nat):Int)).map V.int))
  generalize upd H4 L2 _ = H5 at *
  refine ⟨L1,L2,_,_,rfl,rfl,SqL.of (SL2 _ _ qL1),SqL.of qL2,by simp only [List.length_map]; omega,fun i u v hu hv => ?_,k H5 fun b o nb q => (SL1.trans SL2) _ _ (O b o nb (S _ _ q))⟩
  rw [List.getElem?_map,List.getElem?_map] at hu hv
  cases hr:R1[i]? with
  | none => rw [hr] at hu; cases hu
  | some row1 =>
  cases hr2:R2[i]? with
  | none => rw [hr2] at hv; cases hv
  | some row2 =>
  rw [hr] at hu; rw [hr2] at hv
  cases hu; cases hv
  exact EqD.int (by show ((row1.length + 1:Nat):Int) = ((row2.length + 1:Nat):Int); rw [(he i row1 row2 hr hr2).1])
theorem sc_l_right:FnScope ["_law_kind_here", "_law_prime_here", "_law_text_here", "_law_due", "_law_error", "_law_found", "e"] ["_law_kind_here", "_law_prime_here", "_law_text_here"] (Zag ZcR):=⟨rfl,rfl,rfl,by decide +kernel,rfl,by decide +kernel,by decide +kernel⟩
theorem Zep {t:Value}:∀ {cs:List Addr},(∀ c ∈ cs,PySem.W.kitOne K t (.ref c) = some false) → PySem.W.kitAny K t (cs.map Value.ref) = some false
  | [],_ => rfl
  | c :: cs,h => by
    have h1:=h c (by simp)
    have h2:=Zep (cs:=cs) fun x hx => h x (by simp [hx])
    simp only [List.map_cons,PySem.W.kitAny,h1,h2]
def Zco (K:PySem.W.Frag) (CF CR:Addr):Sp:=fun vs H Q _ => ∃ (k:Addr) (p:Int) (v:V),vs = [.ref k,.int p,v] ∧ KdA CF CR p H k ∧ PK p ∧ TxtV K H v ∧ ∀ H',Same H H' → Q (.bl true) H'
theorem TxtV.same {H H':Hp} {v:V} (h:TxtV K H v) (S:Same H H') (ht:∀ {T:String},TyX K H v (.type T) → TyX K H' v (.type T)):TxtV K H' v:=by
  rcases h with h | ⟨Ty,ty,kit⟩
  · exact .inl h
  · exact .inr ⟨Ty,ht ty,kit⟩
theorem TyX.same {H H':Hp} {v:V} {T:String} (h:TyX K H v (.type T)) (S:Same H H'):TyX K H' v (.type T):=by
  cases h with
  | of h =>
    refine .of ?_
    cases h with
    | non => exact .non
    | bl b => exact .bl b
    | int i => exact .int i
    | str z => exact .str z
    | flt z => exact .flt z
    | lst h => exact .lst (S _ _ h)
    | frz h => exact .frz (S _ _ h)
    | tup h => exact .tup (S _ _ h)
    | dK h => exact .dK (S _ _ h)
    | dT h => exact .dT (S _ _ h)
theorem Zeq (h:Here K mg "_law_right" ZcR) (T:Nm mg) (R:Rf K mg CE cK cN cF cT cI cX cM cR) (Z:Rz K mg "NoText" CE cX [cK,cN,cT,cI,cF,cM,cR]) (h_l_told:Has P w K mg base "_law_told" 6 ["_law_prime_here", "_law_text_here"] (ZbR K)) (h_read_table:HasX P w K mg base "read_table" 6 ["kind", "text"] (Zb1 K CF CR cX)) (h_l_table_is:Has P w K mg base "_law_table_is" 6 ["_law_prime_here", "_law_found", "_law_due"] ZbA):Has P w K mg base "_law_right" 7 ["_law_kind_here", "_law_prime_here", "_law_text_here"] (Zco K CF CR):=by
  refine h.has (fun f fd F => F.binds fun _ _ _ _ _ _ us hl => by obtain ⟨_,_,_,rfl⟩:=ZiQ hl; exact rfl) fun f fd F => F.ok sc_l_right (fun vs H Q E h => ?_) (fun cdv A outer s H vs Q E hr h => ?_)
  · obtain ⟨_,_,_,rfl,_⟩:=h
    rfl
  obtain ⟨kk,p,v,rfl,hk,pk,tv,k⟩:=h
  have nd:=sc_l_right.nd
  refine ⟨_,(Zab (Zaq (i:=3) nd rfl (Or.inl rfl) (Zay h_l_told hr (by rfl) (Zaa (pv 1) (Zaa (pv 2) Zac))))
    (Zab (Zaq (i:=4) nd rfl (Or.inl rfl) ZaM)
    (Zab (Zaq (i:=5) nd rfl (Or.inl rfl) ZaM)
    (Zab (Zix R.cat nd (i:=6) rfl rfl (by rfl) (by exact fun E pn xe hp => (Zae (Zaq (i:=5) nd rfl (Or.inl rfl) (Za0 h_read_table hp hr (by rfl) (Zaa (pv 0) (Zaa (pv 2) Zac)))))) (by exact fun e => (Zae (Zaq (i:=4) nd rfl (Or.inl rfl) (pv 6)))))
    (Zab (Zau (Zai ZfQ (pv 3) ZaM (Zam _)) (Zae (Zal (ZbS (Zbk Zih (pv 4) ZaM (Zam _)) (Zcg (Zay h_l_table_is hr (by rfl) (Zaa (pv 1) (Zaa (pv 5) (Zaa (pv 3) Zac)))))))) Zaj)
    (Zab (Zau (ZaN (Zah Zat (by rfl) T.isinstance boot_isinstance (Zaa (pv 4) (Zaa (Zc9 (Zaa (ZaH (v:=.ref cK) (by rfl) R.k.m rfl) (Zaa (ZaH (v:=.ref cN) (by rfl) R.n.m rfl) (Zaa (ZaH (v:=.ref cT) (by rfl) R.t.m rfl) (Zaa (ZaH (v:=.ref cI) (by rfl) R.i.m rfl) (Zaa (ZaH (v:=.ref cF) (by rfl) R.f.m rfl) (Zaa (ZaH (v:=.ref cM) (by rfl) R.m.m rfl) (Zaa (ZaH (v:=.ref cR) (by rfl) R.r.m rfl) Zac)))))))) Zac)))) (Zae (Zal Zcp)) Zaj)
    (Zae (Zal (ZbS (Zah Zat (by rfl) T.isinstance boot_isinstance (Zaa (pv 4) (Zaa (ZaH (v:=.ref cX) (by rfl) R.x.m rfl) Zac))) (Zcg (Zah Zat (by rfl) T.isinstance boot_isinstance (Zaa (pv 4) (Zaa (Zb7 (by rfl) R.ve PyProof.Rows.Boot.«ValueError») Zac))))))))))))),?_⟩
  have tvs:∀ {H1},Same H H1 → TxtV K H1 v:=fun S => tv.same S fun t => TyX.same t S
  refine ⟨_,rfl,_,rfl,p,v,rfl,pk,tv,fun nor H1 S1 => ?_,fun z ez tok H1 d r2 R2 S1 rd => ?_⟩
  · intro pn xe
    refine ⟨_,rfl,_,rfl,kk,p,v,rfl,hk.same S1,tvs S1,fun _ H2 S2 => ?_,fun z ez tok => absurd tok (nor z ez)⟩
    refine ⟨cX,rfl,Z.e,fun e he => ?_⟩
    have Se:=Zak he (ZhY e cX none)
    have qe:=Zaf (H:=H2) (a:=e) (o:=ZhY e cX none)
    generalize upd H2 e _ = H3 at *
    have S03:=S1.trans (S2.trans Se)
    refine ⟨_,rfl,_,rfl,rfl,_,rfl,Zcj ?_⟩
    refine ⟨_,rfl,(by show 7 ≤ sizeLine; decide),fun tp ntp => ?_⟩
    have St:=Zak ntp (.tup [.ref cK,.ref cN,.ref cT,.ref cI,.ref cF,.ref cM,.ref cR])
    have qt:=Zaf (H:=H3) (a:=tp) (o:=.tup [.ref cK,.ref cN,.ref cT,.ref cI,.ref cF,.ref cM,.ref cR])
    generalize upd H3 tp _ = H4 at *
    obtain ⟨oK,oN,oT,oI,oF,oM,oR,_⟩:=Z.o
    have hx:TyX K H4 (.ref e) (.ref cX):=.exc (St _ _ qe) Z.c.cls
    refine ⟨_,_,_,_,rfl,hx,.tup (cs:=[cK,cN,cT,cI,cF,cM,cR]) qt (Zep fun c hc => ?_),_,rfl,Zcj ?_⟩
    · rcases List.mem_cons.mp hc with rfl | hc
      · exact R.k.no oK
      rcases List.mem_cons.mp hc with rfl | hc
      · exact R.n.no oN
      rcases List.mem_cons.mp hc with rfl | hc
      · exact R.t.no oT
      rcases List.mem_cons.mp hc with rfl | hc
      · exact R.i.no oI
      rcases List.mem_cons.mp hc with rfl | hc
      · exact R.f.no oF
      rcases List.mem_cons.mp hc with rfl | hc
      · exact R.m.no oM
      · rw [List.mem_singleton.mp hc]; exact R.r.no oR
    refine ⟨_,rfl,_,_,_,_,rfl,hx,.ref ZeZ,_,rfl,Zb5 ?_⟩
    exact ⟨_,rfl,_,_,_,_,rfl,hx,.ty (Zi5 K Z.v),k H4 (S03.trans St)⟩
  · intro pn xe
    refine ⟨_,rfl,_,rfl,kk,p,v,rfl,hk.same S1,tvs S1,fun nor => absurd tok (nor z ez),fun z' ez' tok' H2 f1 r1 R1 S2 rd' nd1 nf1 nfr => ?_⟩
    obtain rfl:z' = z:=by rw [ez] at ez'; exact (V.str.inj ez').symm
    refine ⟨_,rfl,rfl,_,rfl,?_⟩
    refine ZaJ (fun _ => ?_) (fun e => absurd e (fun z => nomatch z))
    refine ⟨_,rfl,rfl,_,rfl,Zb5 ?_⟩
    have rd2:=rd.same S2
    obtain ⟨le,eqs⟩:=rd'.eqs rd2
    obtain ⟨o1,o2,_⟩:=tok
    have none1:∀ r ∈ r1,∀ o,H1 r ≠ some o:=fun r hr o q => by rw [nf1 r hr] at q; cases q
    have lR:=rd'.n.1
    refine ⟨_,rfl,_,rfl,_,rfl,p,f1,d,r1,r2,R1,R2,rfl,rd'.l,rd'.r,rd2.l,rd2.r,le,eqs,nd1,nfr,fun q => none1 d q _ rd.l,fun r hr q => ?_,by omega,fun row hrow => ?_,fun H3 O => k H3 fun b o q => ?_⟩
    · obtain ⟨row,_,q'⟩:=rd.r.of_mem hr
      exact none1 r q _ q'
    · obtain ⟨i,hi⟩:=List.getElem?_of_mem hrow
      obtain ⟨pt,hpt,rr⟩:=rd'.n.getR hi
      have:=(o2 pt (List.mem_of_getElem? hpt)).1
      have:=rr.1
      omega
    · exact O b o (fun hb => none1 b hb _ (S1 _ _ q)) ((S1.trans S2) _ _ q)
end
end My
namespace My
open PySem L2 PyProof.Rows
def sp_law (K:PySem.W.Frag):Sp:=fun vs H Q _ => ∃ (a:Addr) (ns:List Int),vs = [.ref a] ∧ SqL K H a (ns.map V.int) ∧ ns.length ≤ 63 ∧ (∀ i ∈ ns,Bits 1048576 i) ∧ ∀ H',Q (.bl true) H'
theorem Zhp:∀ (R:List (List V)),0 ≤ (R.map fun row => (row.length:Int)).sum
  | [] => Int.le_refl _
  | row :: R => by
    have:=Zhp R
    simp only [List.map_cons,List.sum_cons]
    omega
section
variable {P:Program} {w:World} {K:PySem.W.Frag} {mg:Str → Option Value} {base:Heap} {CF CR:Addr}
theorem sc_law:FnScope ["_law_script", "_law_cells", "_law_prime_here", "_law_kind_here", "_law_at", "_law_table", "_law_kept", "_law_text_here", "_law_found"] ["_law_script"] (Zag ZhV):=⟨rfl,rfl,rfl,by decide +kernel,rfl,by decide +kernel,by decide +kernel⟩
theorem ZiM {f:Addr} {fd:FuncData} (F:Fun K "law" "law" ZhV f fd) (T:Nm mg) (Tst:mg "str" = none) (Ts:mg "sum" = none) (h_l_prime:Has P w K mg base "_law_prime" 8 ["_law_cell_here"] ZcS) (h_l_kind:Has P w K mg base "_law_kind" 8 ["_law_prime_here"] (Zeb CF CR)) (h_l_rows:Has P w K mg base "_law_rows" 8 ["_law_prime_here", "_law_cells", "_law_at"] Zeo) (h_l_text:Has P w K mg base "_law_text" 8 ["_law_prime_here", "_law_table"] (Zen K)) (h_l_told:Has P w K mg base "_law_told" 8 ["_law_prime_here", "_law_text_here"] (ZbR K)) (h_show_table:Has P w K mg base "show_table" 8 ["kind", "table"] (Zb0 CF CR)) (h_l_spoiled:Has P w K mg base "_law_spoiled" 8 ["_law_text_here", "_law_cell_here"] (ZbG K)) (h_l_right:Has P w K mg base "_law_right" 8 ["_law_kind_here", "_law_prime_here", "_law_text_here"] (Zco K CF CR)):FnOk P w K mg base CX0 9 f fd ["_law_script"] (sp_law K):=by
  refine F.ok sc_law (fun vs H Q E h => ?_) (fun cdv A outer s H vs Q E hr h => ?_)
  · obtain ⟨_,_,rfl,_⟩:=h
    rfl
  obtain ⟨a,ns,rfl,hS,hl,hb,k⟩:=h
  have nd:=sc_law.nd
  refine ⟨_,(Zab (Zaq (i:=1) nd rfl (Or.inl rfl) (Zap Ziq (ZaO Zf0 (pv 0) Za7 (Za8 Zad)) (Zch (Zaa Zad Zac))))
    (Zab (Zaq (i:=2) nd rfl (Or.inl rfl) (Zay h_l_prime hr (by rfl) (Zaa (ZaI ZaB (pv 1) Zad (fun _ _ => rfl)) Zac)))
    (Zab (Zaq (i:=3) nd rfl (Or.inl rfl) (Zay h_l_kind hr (by rfl) (Zaa (pv 2) Zac)))
    (Zab (Zaq (i:=4) nd rfl (Or.inl rfl) Zad)
    (Zab (ZbC PassesOwn.never (Zai ZcZ (pv 4) (Zah Zao (by rfl) T.len boot_len (Zaa (pv 1) Zac)) (Zam _)) (Zab (Zaq (i:=5) nd rfl (Or.inl rfl) (Zay h_l_rows hr (by rfl) (Zaa (pv 2) (Zaa (pv 1) (Zaa (pv 4) Zac)))))
      (Zab (Zb9 (i:=6) ["_law_row"] [] nd rfl rfl rfl (ZaF (pv 5)) (by exact fun _ _ _ _ => (Zaw (i:=0) (show (["_law_row"]:List Str).Nodup by decide +kernel) rfl (Or.inl rfl))) (by exact fun _ _ _ _ => (ZaG (Zdv K rfl) (by rfl) T.list boot_list (Zaa (pv 0) Zac))) trivial)
      (Zab (Zaq (i:=7) nd rfl (Or.inl rfl) (Zay h_l_text hr (by rfl) (Zaa (pv 2) (Zaa (pv 5) Zac))))
      (Zab (Zau (Zai ZfQ (Zay h_l_told hr (by rfl) (Zaa (pv 2) (Zaa (pv 7) Zac))) ZaM (Zam _)) (Zab (Zaq (i:=8) nd rfl (Or.inl rfl) (Zay h_show_table hr (by rfl) (Zaa (pv 3) (Zaa (pv 5) Zac))))
        (Zae (Zau (ZbK (ZaQ (ZaN (Zah Zat (by rfl) T.isinstance boot_isinstance (Zaa (pv 8) (Zaa (Zb7 (by rfl) Tst boot_str) Zac))))) (ZbK (Zai ZcC (pv 8) (pv 7) (Zam _)) (Zbf (Zai (ZiA hr) (pv 5) (pv 6) (Zam _))))).pt (Zae (Zal Zcp)) Zaj))) Zaj)
      (Zab (Zau (ZbK (ZaQ (ZaN (Zay h_l_right hr (by rfl) (Zaa (pv 3) (Zaa (pv 2) (Zaa (pv 7) Zac)))))) (Zbf (ZaQ (ZaN (Zay h_l_right hr (by rfl) (Zaa (pv 3) (Zaa (pv 2) (Zaa (Zay h_l_spoiled hr (by rfl) (Zaa (pv 7) (Zaa (ZaI ZaB (pv 1) (pv 4) (fun _ _ => rfl)) Zac))) Zac)))))))).pt (Zae (Zal Zcp)) Zaj)
      (Zae (Zaq (i:=4) nd rfl (Or.inl rfl) (Zap ZaR (Zap ZaR (pv 4) Zad) (Zah (ZgX rfl) (by rfl) Ts boot_sum (Zaa (Zbc ["_law_row"] [] rfl (ZaF (pv 5)) (by exact fun _ _ _ _ => (Zaw (i:=0) (show (["_law_row"]:List Str).Nodup by decide +kernel) rfl (Or.inl rfl))) (by exact fun _ _ _ _ => (Zah (ZaP K rfl) (by rfl) T.len boot_len (Zaa (pv 0) Zac))) trivial) Zac)))))))))))
    (Zae (Zal Zcp))))))),?_⟩
  refine ⟨_,rfl,63,rfl,a,_,rfl,hS,fun p hp => ?_⟩
  refine ⟨(by show 1 ≤ sizeLine; decide),fun q hq => ?_⟩
  obtain ⟨cs,ec,l1,l2,cb⟩:∃ cs:List Int,ZfC (ns.map V.int) none (some 63) ++ [.int 0] = cs.map V.int ∧ 1 ≤ cs.length ∧ cs.length ≤ 65 ∧ ∀ i ∈ cs,Bits 1048576 i:=by
    refine ⟨ns.take 63 ++ [0],?_,?_,?_,fun i hi => ?_⟩
    · have e:=Zgu (ns.map V.int) 63
      rw [← List.map_take] at e
      rw [List.map_append]
      exact congrArg (· ++ [V.int 0]) e
    · rw [List.length_append]; show 1 ≤ _ + 1; omega
    · rw [List.length_append,List.length_take]; show _ + 1 ≤ 65; omega
    · rcases List.mem_append.mp hi with hi | hi
      · exact hb i (List.mem_of_mem_take hi)
      · rw [List.mem_singleton.mp hi]; show Builtin.Int.intBits 0 ≤ 1048576; decide
  refine ⟨p,q,_,_,rfl,rfl,by rw [Zan (Zaz Zaf hq)]; exact Zaf,Zaf,?_,fun c hc => ?_⟩
  · have z:=congrArg List.length ec
    rw [List.length_append,List.length_map] at z
    have z2:(65:Nat) ≤ sizeLine:=by decide
    show _ + 1 ≤ sizeLine
    have z3:(ZfC (ns.map V.int) none (some 63)).length + 1 = cs.length:=z
    omega
  rw [ec]
  generalize hH0:upd (upd (upd H p (.lst (ZfC (ns.map V.int) none (some 63)))) q (.lst [.int 0])) c (.lst (cs.map V.int)) = H0
  have hc0:H0 c = some (.lst (cs.map V.int)):=by rw [← hH0]; exact Zaf
  have c0:atI (cs.map V.int) 0 = some (.int cs[0]):=Zd9 (i:=0) (by omega)
  refine ⟨_,rfl,_,_,_,_,rfl,rfl,SqL.of hc0,c0,_,rfl,fun H1 pr S1 pk => ?_⟩
  refine ⟨_,rfl,pr,rfl,pk,fun H2 kk S2 kd2 => ?_⟩
  have hc2:=(S1.trans S2) _ _ hc0
  clear hH0 hc0 S1 S2
  have ce2:Ce H2 c cs:=⟨hc2,l1,by omega,cb⟩
  refine ⟨fun mm σ H' => ∃ (at_:Nat) (z5 z6 z7 z8:Option V),mm = cs.length - at_ ∧ σ = [some (.ref a),some (.ref c),some (.int pr),some (.ref kk),some (.int (at_:Int)),z5,z6,z7,z8] ∧ Same H2 H',⟨_,0,none,none,none,none,rfl,rfl,Same.refl _⟩,?_⟩
  rintro mm σ H3 ⟨at_,z5,z6,z7,z8,rfl,rfl,S3⟩
  have hc3:=S3 _ _ hc2
  refine ⟨_,rfl,_,rfl,c,_,rfl,.inl (SqL.of hc3),_,_,rfl,rfl,_,rfl,?_⟩
  rw [List.length_map]
  refine Zar (fun hlt => ?_) (fun _ => ?_)
  case refine_2 => exact k H3
  have hlt:(at_:Int) < (cs.length:Int):=hlt
  have hlt':at_ < cs.length:=by omega
  refine ⟨_,fun _ _ h => h,?_⟩
  refine ⟨_,rfl,_,rfl,_,rfl,pr,c,cs,at_,rfl,pk,ce2.same S3,hlt',fun H4 t rs R S4 tb l8 l82 => ?_⟩
  have lr:=tb.r.1
  have S24:=S3.trans S4
  refine ⟨_,rfl,t,rfl,⟨_,SqL.of tb.l⟩,?_⟩
  refine ZaE (xs:=rs.map V.ref) (fun i ys H' => Same H4 H' ∧ ∃ ks:List Addr,ys = ks.map V.ref ∧ AlG (fun r row => H' r = some (.lst row)) ks (R.take i)) (by rw [List.length_map]; omega) ⟨Same.refl _,[],rfl,AlG.nil⟩ ?_ ?_ ?_
  · rintro i ys H' - ⟨S',_⟩
    exact SqL.of (S' _ _ tb.l)
  · rintro i x ys H5 hx hy ⟨S5,ks,rfl,al⟩
    obtain ⟨r,hr',rfl⟩:=Zbb hx
    obtain ⟨row,hrow,qr⟩:=tb.r.get hr'
    refine ⟨_,rfl,r,row,rfl,.inl (SqL.of (S5 _ _ qr)),fun l nl => ⟨S5.trans (Zak nl _),ks ++ [l],by rw [List.map_append]; rfl,?_⟩⟩
    rw [List.take_add_one,hrow]
    exact (al.mono fun _ _ q => (Zak nl _) _ _ q).snoc Zaf
  rintro ys H5 hy ⟨S5,ks,rfl,al⟩
  rw [List.length_map,lr,List.take_length] at al
  intro kp nkp
  have Sk:=Zak nkp (.lst (ks.map V.ref))
  have qk:=Zaf (H:=H5) (a:=kp) (o:=.lst (ks.map V.ref))
  generalize upd H5 kp _ = H6 at *
  have S46:=S5.trans Sk
  have tb6:=tb.same S46
  have tk6:RTb H6 pr kp ks R:=⟨qk,al.mono fun _ _ q => Sk _ _ q,tb6.n⟩
  have S26:=S24.trans S46
  refine ⟨_,rfl,_,rfl,pr,t,rs,R,rfl,pk,tb6,l8,l82,fun H7 z S7 sz zl => ?_⟩
  have S27:=S26.trans S7
  have tv:∀ {H'},TxtV K H' (.str z):=fun {H'} => .inl ⟨z,rfl,by omega⟩
  refine ZeK ?_
  refine ZeL (fun σ' H' => ∃ z8:Option V,σ' = [some (.ref a),some (.ref c),some (.int pr),some (.ref kk),some (.int (at_:Int)),some (.ref t),some (.ref kp),some (.str z),z8] ∧ Same H7 H') (fun N' hN => ?_) ?_
  · refine ⟨_,rfl,_,rfl,pr,.str z,rfl,pk,tv,fun _ H8 S8 => ?_,fun z' ez tok H8 td r2 R2 S8 rd => ?_⟩
    · refine ⟨rfl,_,rfl,?_⟩
      exact ZaJ (fun e => absurd rfl e) (fun _ => hN _ _ ⟨z8,rfl,S8⟩)
    · refine ⟨rfl,_,rfl,?_⟩
      refine ZaJ (fun _ => ?_) (fun e => nomatch e)
      have S68:=S7.trans S8
      have tb8:=tb6.same S68
      refine ⟨_,rfl,_,rfl,kk,pr,t,rs,R,rfl,kd2.same (S27.trans S8),pk,tb8,l8,l82,fun H9 z2 S9 sz2 => ?_⟩
      obtain rfl:z2 = z:=ShT.det sz2 (sz.same S68)
      refine ⟨_,rfl,_,_,_,_,rfl,.of (.str z2),.ty (ZaD K _),_,rfl,Zcj ?_⟩
      refine ⟨_,rfl,_,rfl,rfl,_,rfl,?_⟩
      refine ZaJ (fun e => absurd rfl e) (fun _ => ?_)
      obtain ⟨d,d1,d2⟩:=RTb.rp2 (tb8.same S9) ((tk6.same S68).same S9)
      exact ⟨_,rfl,_,rfl,d,d1,d2,_,rfl,Zcj (hN _ _ ⟨_,rfl,S8.trans S9⟩)⟩
  rintro _ H8 ⟨z8,rfl,S8⟩
  have S28:=S27.trans S8
  refine ⟨_,rfl,_,rfl,_,rfl,kk,pr,.str z,rfl,kd2.same S28,pk,tv,fun H9 S9 => ⟨_,rfl,Zcj ?_⟩⟩
  have S29:=S28.trans S9
  refine ⟨_,rfl,_,rfl,_,rfl,_,rfl,_,rfl,c,_,_,_,rfl,rfl,SqL.of (S29 _ _ hc2),Zd9 hlt',z,_,rfl,zl,fun Ha va Sa tva => ?_⟩
  refine ⟨kk,pr,va,rfl,kd2.same (S29.trans Sa),pk,tva,fun Hb Sb => ⟨_,rfl,Zcj ?_⟩⟩
  have S2b:=S29.trans (Sa.trans Sb)
  have tbb:=tb6.same (S7.trans (S8.trans (S9.trans (Sa.trans Sb))))
  refine ⟨_,rfl,_,_,rfl,rfl,_,rfl,t,rfl,⟨_,SqL.of tbb.l⟩,?_⟩
  refine ZaE (xs:=rs.map V.ref) (fun i ys H' => Hb = H' ∧ ys = ((R.take i).map fun row => (row.length:Int)).map V.int) (by rw [List.length_map]; omega) ⟨rfl,rfl⟩ ?_ ?_ ?_
  · rintro i ys _ - ⟨rfl,_⟩
    exact SqL.of tbb.l
  · rintro i x ys _ hx hy ⟨rfl,rfl⟩
    obtain ⟨r,hr',rfl⟩:=Zbb hx
    obtain ⟨row,hrow,qr⟩:=tbb.r.get hr'
    refine ⟨_,rfl,r,_,rfl,.inl (SqL.of qr),rfl,?_⟩
    rw [List.take_add_one,hrow,List.map_append,List.map_append]; rfl
  rintro ys _ hy ⟨rfl,rfl⟩
  rw [List.length_map,lr,List.take_length]
  refine fun L nL => ⟨L,_,rfl,SqL.of Zaf,_,_,rfl,rfl,?_⟩
  have sg:=Zhp R
  obtain ⟨m,em⟩:∃ m:Nat,(at_:Int) + 1 + (R.map fun row => (row.length:Int)).sum = (m:Int):=⟨((at_:Int) + 1 + (R.map fun row => (row.length:Int)).sum).toNat,by omega⟩
  show Zb3 4 (V.int ((at_:Int) + 1 + (R.map fun row => (row.length:Int)).sum)) _ _ _
  rw [em]
  exact ⟨cs.length - m,by omega,m,_,_,_,_,rfl,rfl,S2b.trans (Zak nL _)⟩
end
end My
namespace PySem.W.Fast
theorem tw11753036671154286592:True:=⟨⟩
theorem tw3477048333195082752:True:=⟨⟩
theorem tw11178017195898498048:True:=⟨⟩
theorem tw9517542035498279968:True:=⟨⟩
theorem tw4317175646132776000:True:=⟨⟩
theorem tw17798984698166143040:True:=⟨⟩
theorem tw1808894315752098912:True:=⟨⟩
theorem tw3773555026853064832:True:=⟨⟩
theorem tw319421818365284480:True:=⟨⟩
theorem tw13736145546101518496:True:=⟨⟩
theorem tw16016478966495941824:True:=⟨⟩
theorem tw17674804361185138048:True:=⟨⟩
theorem tw13731886630030432640:True:=⟨⟩
theorem tw14341954037494860224:True:=⟨⟩
theorem tw1102689239071412672:True:=⟨⟩
theorem tw10409563969150634528:True:=⟨⟩
theorem tw12871686776184729152:True:=⟨⟩
theorem tw8524258371752435296:True:=⟨⟩
theorem tw968388552441086560:True:=⟨⟩
theorem tw18442821702856642176:True:=⟨⟩
theorem tw15487800994188874368:True:=⟨⟩
theorem tw10660650650011064960:True:=⟨⟩
theorem tw4270008985426619008:True:=⟨⟩
theorem tw13931890820016143008:True:=⟨⟩
theorem tw17766724008568860576:True:=⟨⟩
theorem tw4736577406556380161:True:=⟨⟩
theorem tw5387940793912383521:True:=⟨⟩
theorem tw9927049572420406497:True:=⟨⟩
theorem tw15946340516005846273:True:=⟨⟩
theorem tw5369898193958420769:True:=⟨⟩
theorem tw5452385746264835425:True:=⟨⟩
theorem tw15788152375664315873:True:=⟨⟩
theorem tw11099627356802511361:True:=⟨⟩
theorem tw6006203303143020065:True:=⟨⟩
theorem tw11237407132044722753:True:=⟨⟩
theorem tw9100433961721700033:True:=⟨⟩
theorem tw17434547089534357217:True:=⟨⟩
theorem tw1241466088076063521:True:=⟨⟩
theorem tw7784079414367853505:True:=⟨⟩
theorem tw10300240001525736385:True:=⟨⟩
theorem tw10140392746453613537:True:=⟨⟩
theorem tw13751975635543484418:True:=⟨⟩
theorem tw13424350310404682914:True:=⟨⟩
theorem tw12032105181409915074:True:=⟨⟩
theorem tw16438049143518424354:True:=⟨⟩
theorem tw3241498695668700482:True:=⟨⟩
theorem tw2816789513542375778:True:=⟨⟩
theorem tw13344219915315147138:True:=⟨⟩
theorem tw9541014001140820354:True:=⟨⟩
theorem tw14952582710466517474:True:=⟨⟩
theorem tw18294615511057116642:True:=⟨⟩
theorem tw17661940019481523714:True:=⟨⟩
theorem tw4761470692717205154:True:=⟨⟩
theorem tw11450773324682631842:True:=⟨⟩
theorem tw17440695044948494082:True:=⟨⟩
theorem tw16429516482787191618:True:=⟨⟩
theorem tw8034244085691420514:True:=⟨⟩
theorem tw108998999325988706:True:=⟨⟩
theorem tw5808739668386109410:True:=⟨⟩
theorem tw1849787562849036258:True:=⟨⟩
theorem tw9364211170533272643:True:=⟨⟩
theorem tw813592715959974979:True:=⟨⟩
theorem tw5987844923039709251:True:=⟨⟩
theorem tw13744291616362017027:True:=⟨⟩
theorem tw1364964165511538979:True:=⟨⟩
theorem tw9616460766099152163:True:=⟨⟩
theorem tw4670833757284146499:True:=⟨⟩
theorem tw17411229742899419491:True:=⟨⟩
theorem tw14328413771333348739:True:=⟨⟩
theorem tw15733605538689944067:True:=⟨⟩
theorem tw5594145678845600259:True:=⟨⟩
theorem tw132444190181665379:True:=⟨⟩
theorem tw2536259272670716579:True:=⟨⟩
theorem tw12975579205337832163:True:=⟨⟩
theorem tw15096587000390830883:True:=⟨⟩
theorem tw18372112166147754915:True:=⟨⟩
theorem tw14867226384946145187:True:=⟨⟩
theorem tw5389296216777719715:True:=⟨⟩
theorem tw7124386536634684355:True:=⟨⟩
theorem tw5810743713670419427:True:=⟨⟩
theorem tw1653308464945959907:True:=⟨⟩
theorem tw7542307448689803235:True:=⟨⟩
theorem tw12927177739076987908:True:=⟨⟩
theorem tw5618349051364498500:True:=⟨⟩
theorem tw16471838941744443556:True:=⟨⟩
theorem tw15841368544914163012:True:=⟨⟩
theorem tw458128301377383844:True:=⟨⟩
theorem tw7100587106896599556:True:=⟨⟩
theorem tw246277357011164676:True:=⟨⟩
theorem tw398139234859277828:True:=⟨⟩
theorem tw13821981632064424548:True:=⟨⟩
theorem tw8077331996234793572:True:=⟨⟩
theorem tw8904099124150331044:True:=⟨⟩
theorem tw3633057036274996900:True:=⟨⟩
theorem tw6520610331038836484:True:=⟨⟩
theorem tw304232285127505668:True:=⟨⟩
theorem tw11860571259533932388:True:=⟨⟩
theorem tw10723555609936448420:True:=⟨⟩
theorem tw9401121459226849252:True:=⟨⟩
theorem tw11840931737346875397:True:=⟨⟩
theorem tw1722757527878519845:True:=⟨⟩
theorem tw10008319970682494053:True:=⟨⟩
theorem tw16626572859466287237:True:=⟨⟩
theorem tw2993627643026626853:True:=⟨⟩
theorem tw11189553805525411109:True:=⟨⟩
theorem tw16830845868769965413:True:=⟨⟩
theorem tw8413270065369503173:True:=⟨⟩
theorem tw3218429786005310949:True:=⟨⟩
theorem tw13914840085612320229:True:=⟨⟩
theorem tw1984957283226999333:True:=⟨⟩
theorem tw12935983720692587077:True:=⟨⟩
theorem tw8108232080769699461:True:=⟨⟩
theorem tw17871179320865347205:True:=⟨⟩
theorem tw5514666650934377125:True:=⟨⟩
theorem tw5608176692029674245:True:=⟨⟩
theorem tw9703800603409717093:True:=⟨⟩
theorem tw90180876525093765:True:=⟨⟩
theorem tw13338055141233632165:True:=⟨⟩
theorem tw9872151027962792869:True:=⟨⟩
theorem tw3272959459754343365:True:=⟨⟩
theorem tw14761910685264824422:True:=⟨⟩
theorem tw17121301693690153094:True:=⟨⟩
theorem tw1228843264381225190:True:=⟨⟩
theorem tw9205395311173469510:True:=⟨⟩
theorem tw7070101708566356326:True:=⟨⟩
theorem tw2938566000993143206:True:=⟨⟩
theorem tw15068498410580320710:True:=⟨⟩
theorem tw18162916697890354630:True:=⟨⟩
theorem tw5540456021208734214:True:=⟨⟩
theorem tw11279467502076046950:True:=⟨⟩
theorem tw3369185304595940038:True:=⟨⟩
theorem tw5158511094458801926:True:=⟨⟩
theorem tw9199928058068817734:True:=⟨⟩
theorem tw16725565885483212774:True:=⟨⟩
theorem tw1735158540539323366:True:=⟨⟩
theorem tw7001903056389861350:True:=⟨⟩
theorem tw9869663678210033703:True:=⟨⟩
theorem tw7205939847193210951:True:=⟨⟩
theorem tw17646047820984171591:True:=⟨⟩
theorem tw17327049948496757991:True:=⟨⟩
theorem tw3127885668280424743:True:=⟨⟩
theorem tw8146801170588057959:True:=⟨⟩
theorem tw1050176302202883495:True:=⟨⟩
theorem tw13694799003495301607:True:=⟨⟩
theorem tw5351231440889360871:True:=⟨⟩
theorem tw12011417265204472327:True:=⟨⟩
theorem tw3988089019981250183:True:=⟨⟩
theorem tw5511682095179182887:True:=⟨⟩
theorem tw436624229289790407:True:=⟨⟩
theorem tw10708380688217388999:True:=⟨⟩
theorem tw7528105437461310472:True:=⟨⟩
theorem tw1235307604934037608:True:=⟨⟩
theorem tw11422929096552726760:True:=⟨⟩
theorem tw12655056910849546536:True:=⟨⟩
theorem tw10116378539308344680:True:=⟨⟩
theorem tw16943486965987681640:True:=⟨⟩
theorem tw15722567844711467400:True:=⟨⟩
theorem tw16558959164197356936:True:=⟨⟩
theorem tw17168322421629153704:True:=⟨⟩
theorem tw3418366738247201224:True:=⟨⟩
theorem tw12627478393600350824:True:=⟨⟩
theorem tw9453534500218716968:True:=⟨⟩
theorem tw15969289721112298312:True:=⟨⟩
theorem tw4557593381466079112:True:=⟨⟩
theorem tw8426677885582425064:True:=⟨⟩
theorem tw15407289828162835465:True:=⟨⟩
theorem tw14060453820889518089:True:=⟨⟩
theorem tw11025615640073668649:True:=⟨⟩
theorem tw3187749917169994793:True:=⟨⟩
theorem tw12346509367349700649:True:=⟨⟩
theorem tw6456465706783696009:True:=⟨⟩
theorem tw16372916910915347625:True:=⟨⟩
theorem tw2066634935099881641:True:=⟨⟩
theorem tw18275816239736729897:True:=⟨⟩
theorem tw9398410928816211273:True:=⟨⟩
theorem tw17947602510651128137:True:=⟨⟩
theorem tw1220331972816920969:True:=⟨⟩
theorem tw146619271721419241:True:=⟨⟩
theorem tw5693262510252075529:True:=⟨⟩
theorem tw9766906726488799753:True:=⟨⟩
theorem tw9829854669194421801:True:=⟨⟩
theorem tw904659864026281545:True:=⟨⟩
theorem tw13414860472761622121:True:=⟨⟩
theorem tw15815368013956627081:True:=⟨⟩
theorem tw5016397901819914921:True:=⟨⟩
theorem tw1547616543963450025:True:=⟨⟩
theorem tw8128396435673291465:True:=⟨⟩
theorem tw18268217126826592969:True:=⟨⟩
theorem tw1861499009295510217:True:=⟨⟩
theorem tw383520430023310057:True:=⟨⟩
theorem tw10036699174381504297:True:=⟨⟩
theorem tw326505880623737673:True:=⟨⟩
theorem tw10649779340015192937:True:=⟨⟩
theorem tw13100722839890946090:True:=⟨⟩
theorem tw16072015896284177450:True:=⟨⟩
theorem tw18354606073746010186:True:=⟨⟩
theorem tw10441195782164765802:True:=⟨⟩
theorem tw15057704967100774506:True:=⟨⟩
theorem tw6872279656193939658:True:=⟨⟩
theorem tw17557104785222197482:True:=⟨⟩
theorem tw13972521468395393290:True:=⟨⟩
theorem tw5178274342790393162:True:=⟨⟩
theorem tw2346082284465555850:True:=⟨⟩
theorem tw14382379789578659210:True:=⟨⟩
theorem tw3852416736546125226:True:=⟨⟩
theorem tw2233762881486408170:True:=⟨⟩
theorem tw13478173253724318218:True:=⟨⟩
theorem tw10094817359494087274:True:=⟨⟩
theorem tw6222083008051071626:True:=⟨⟩
theorem tw18190463465989806762:True:=⟨⟩
theorem tw12437601873222600394:True:=⟨⟩
theorem tw12422273817577711466:True:=⟨⟩
theorem tw8213233803709212522:True:=⟨⟩
theorem tw653983220607141802:True:=⟨⟩
theorem tw11067121883242188907:True:=⟨⟩
theorem tw4833248801513726059:True:=⟨⟩
theorem tw1281172633337839755:True:=⟨⟩
theorem tw3944070056489627819:True:=⟨⟩
theorem tw17404306893576582315:True:=⟨⟩
theorem tw16889407288101893355:True:=⟨⟩
theorem tw8904814327957227883:True:=⟨⟩
theorem tw3262649689441334635:True:=⟨⟩
theorem tw10869593403915405707:True:=⟨⟩
theorem tw16156146901925672331:True:=⟨⟩
theorem tw17411112895079193003:True:=⟨⟩
theorem tw16056760577596158539:True:=⟨⟩
theorem tw12093918624584068779:True:=⟨⟩
theorem tw14730372212200405675:True:=⟨⟩
theorem tw9286948951220419307:True:=⟨⟩
theorem tw16136216170636001035:True:=⟨⟩
theorem tw4619808706935210859:True:=⟨⟩
theorem tw2104226150469377899:True:=⟨⟩
theorem tw14216105329309830123:True:=⟨⟩
theorem tw2826147775534242828:True:=⟨⟩
theorem tw14101639276447540236:True:=⟨⟩
theorem tw14723050880176637996:True:=⟨⟩
theorem tw12270230864335776908:True:=⟨⟩
theorem tw7822137037657599116:True:=⟨⟩
theorem tw4995706619204659372:True:=⟨⟩
theorem tw6435947064923902156:True:=⟨⟩
theorem tw17981598962046576876:True:=⟨⟩
theorem tw7546430088411435244:True:=⟨⟩
theorem tw8308716484254001388:True:=⟨⟩
theorem tw15011702837589669132:True:=⟨⟩
theorem tw979304693919888748:True:=⟨⟩
theorem tw10459836614753985932:True:=⟨⟩
theorem tw14200518668951966124:True:=⟨⟩
theorem tw17045061901463632428:True:=⟨⟩
theorem tw16717531114300447308:True:=⟨⟩
theorem tw6480868221788784268:True:=⟨⟩
theorem tw9759601826374590188:True:=⟨⟩
theorem tw2890370907512363788:True:=⟨⟩
theorem tw188489038413807436:True:=⟨⟩
theorem tw5262166187230893932:True:=⟨⟩
theorem tw15484777011072420780:True:=⟨⟩
theorem tw18038075522693064652:True:=⟨⟩
theorem tw17033508972407537612:True:=⟨⟩
theorem tw17692416742164029517:True:=⟨⟩
theorem tw11021035225386588269:True:=⟨⟩
theorem tw1996498860365877357:True:=⟨⟩
theorem tw15660705596858645645:True:=⟨⟩
theorem tw5163569348843447693:True:=⟨⟩
theorem tw12688573783564509645:True:=⟨⟩
theorem tw17849912866699201005:True:=⟨⟩
theorem tw6369647156479541741:True:=⟨⟩
theorem tw16781331615197905421:True:=⟨⟩
theorem tw16607052303385923085:True:=⟨⟩
theorem tw13691022903554168365:True:=⟨⟩
theorem tw15520527924859208301:True:=⟨⟩
theorem tw1464296397495830125:True:=⟨⟩
theorem tw17789554114417166957:True:=⟨⟩
theorem tw7370867047338829421:True:=⟨⟩
theorem tw17878450900598565581:True:=⟨⟩
theorem tw17997062416417340109:True:=⟨⟩
theorem tw6799354666639813357:True:=⟨⟩
theorem tw15837669663330305901:True:=⟨⟩
theorem tw871908177404394477:True:=⟨⟩
theorem tw15666086582824586286:True:=⟨⟩
theorem tw13080831333304789102:True:=⟨⟩
theorem tw9126670310452388014:True:=⟨⟩
theorem tw12883262653999242446:True:=⟨⟩
theorem tw13895134376840260814:True:=⟨⟩
theorem tw4839772254340627790:True:=⟨⟩
theorem tw18388747835103875438:True:=⟨⟩
theorem tw520235337655946670:True:=⟨⟩
theorem tw8459209629402373678:True:=⟨⟩
theorem tw12788339387263748750:True:=⟨⟩
theorem tw12052373196481554126:True:=⟨⟩
theorem tw4240814874540318446:True:=⟨⟩
theorem tw13048479353020892175:True:=⟨⟩
theorem tw832624347842729039:True:=⟨⟩
theorem tw3624172434365125775:True:=⟨⟩
theorem tw10978881710592042127:True:=⟨⟩
theorem tw10501897075768272047:True:=⟨⟩
theorem tw6419132089923549359:True:=⟨⟩
theorem tw12838190198337033391:True:=⟨⟩
theorem tw5585578863457316175:True:=⟨⟩
theorem tw14225167017929481583:True:=⟨⟩
theorem tw12069151895866086799:True:=⟨⟩
theorem tw3867285898135796143:True:=⟨⟩
theorem tw14854778677192477135:True:=⟨⟩
theorem tw4809057025344683503:True:=⟨⟩
theorem tw14717164221768056303:True:=⟨⟩
theorem tw1401765337293347343:True:=⟨⟩
theorem tw7881468265404681871:True:=⟨⟩
theorem tw3495406206645906095:True:=⟨⟩
theorem tw12368998008597490447:True:=⟨⟩
theorem tw3270061472236808015:True:=⟨⟩
theorem tw12713000407610893199:True:=⟨⟩
theorem tw862023636244709359:True:=⟨⟩
theorem tw286216303447095312:True:=⟨⟩
theorem tw6902122587218928656:True:=⟨⟩
theorem tw13495082026039712848:True:=⟨⟩
theorem tw9487800596159520944:True:=⟨⟩
theorem tw12178511397652738320:True:=⟨⟩
theorem tw4243775210278449456:True:=⟨⟩
theorem tw17153759374080064912:True:=⟨⟩
theorem tw6590152098827484592:True:=⟨⟩
theorem tw8705317614396870160:True:=⟨⟩
theorem tw12935670340683941392:True:=⟨⟩
theorem tw8894099832636199664:True:=⟨⟩
theorem tw4516017729522599888:True:=⟨⟩
theorem tw14383405216202504273:True:=⟨⟩
theorem tw7485885779186435185:True:=⟨⟩
theorem tw4359955347738440977:True:=⟨⟩
theorem tw2985416481179565361:True:=⟨⟩
theorem tw16584217566238134641:True:=⟨⟩
theorem tw12858069498566720913:True:=⟨⟩
theorem tw2145362537932302769:True:=⟨⟩
theorem tw17743497678342622705:True:=⟨⟩
theorem tw14930336619251451377:True:=⟨⟩
theorem tw14124832453540417137:True:=⟨⟩
theorem tw4043711493478951569:True:=⟨⟩
theorem tw6060278582214524561:True:=⟨⟩
theorem tw16895399313228105457:True:=⟨⟩
theorem tw13777542264117388049:True:=⟨⟩
theorem tw15301078892401886065:True:=⟨⟩
theorem tw9106437851426167729:True:=⟨⟩
theorem tw6426443566956814321:True:=⟨⟩
theorem tw14229131356912988145:True:=⟨⟩
theorem tw14052218152269369329:True:=⟨⟩
theorem tw1074691597776789522:True:=⟨⟩
theorem tw8197902255527753874:True:=⟨⟩
theorem tw3978387442956726450:True:=⟨⟩
theorem tw14277935934608139634:True:=⟨⟩
theorem tw8740289306741874098:True:=⟨⟩
theorem tw5459080742629824082:True:=⟨⟩
theorem tw14606324326702595698:True:=⟨⟩
theorem tw18206860468425480850:True:=⟨⟩
theorem tw8079884209518401234:True:=⟨⟩
theorem tw1305732159074850546:True:=⟨⟩
theorem tw4395261762069608274:True:=⟨⟩
theorem tw642265291910826834:True:=⟨⟩
theorem tw2060928816206114674:True:=⟨⟩
theorem tw7185058003545125810:True:=⟨⟩
theorem tw16916191520805061586:True:=⟨⟩
theorem tw14990178333376178195:True:=⟨⟩
theorem tw2201010162518064307:True:=⟨⟩
theorem tw9667043160634191027:True:=⟨⟩
theorem tw4457326451004057843:True:=⟨⟩
theorem tw13220415968302602515:True:=⟨⟩
theorem tw13283659572206485971:True:=⟨⟩
theorem tw7092150033605068275:True:=⟨⟩
theorem tw17115716884771170803:True:=⟨⟩
theorem tw452047582220796563:True:=⟨⟩
theorem tw8655240126046464915:True:=⟨⟩
theorem tw6244502885139173363:True:=⟨⟩
theorem tw17565679528131230707:True:=⟨⟩
theorem tw5168708651801745428:True:=⟨⟩
theorem tw18427702141031235604:True:=⟨⟩
theorem tw15185127690796628052:True:=⟨⟩
theorem tw11906503971497585748:True:=⟨⟩
theorem tw25841858934606932:True:=⟨⟩
theorem tw11065182933471797364:True:=⟨⟩
theorem tw3499389969846249588:True:=⟨⟩
theorem tw10654108618350247028:True:=⟨⟩
theorem tw13405711740979434644:True:=⟨⟩
theorem tw17914673742457998516:True:=⟨⟩
theorem tw6775710419107939508:True:=⟨⟩
theorem tw13468694059501554900:True:=⟨⟩
theorem tw12173090731258421556:True:=⟨⟩
theorem tw2021915740936931764:True:=⟨⟩
theorem tw7542851778240326068:True:=⟨⟩
theorem tw11324991725152121300:True:=⟨⟩
theorem tw11000400275880013332:True:=⟨⟩
theorem tw13349989487636756084:True:=⟨⟩
theorem tw10218999702650358420:True:=⟨⟩
theorem tw4152671994693820052:True:=⟨⟩
theorem tw8346618061368303252:True:=⟨⟩
theorem tw6422629388588253972:True:=⟨⟩
theorem tw10325112318768066324:True:=⟨⟩
theorem tw5470065034684552980:True:=⟨⟩
theorem tw1529605972723890964:True:=⟨⟩
theorem tw17991977071865470772:True:=⟨⟩
theorem tw6031252210568377140:True:=⟨⟩
theorem tw10821060129461819252:True:=⟨⟩
theorem tw7141207259397156756:True:=⟨⟩
theorem tw3992175992151107572:True:=⟨⟩
theorem tw13537132273746907157:True:=⟨⟩
theorem tw14774366411758498869:True:=⟨⟩
theorem tw14177975681512775765:True:=⟨⟩
theorem tw3177034417724400757:True:=⟨⟩
theorem tw11493163582954647669:True:=⟨⟩
theorem tw7887337280289154197:True:=⟨⟩
theorem tw6982227025662562517:True:=⟨⟩
theorem tw18262412456380900661:True:=⟨⟩
theorem tw3375279752347786549:True:=⟨⟩
theorem tw12477899661672659317:True:=⟨⟩
theorem tw5598948262999654869:True:=⟨⟩
theorem tw17801464806753678805:True:=⟨⟩
theorem tw12378488464173422069:True:=⟨⟩
theorem tw12766068108451332661:True:=⟨⟩
theorem tw10244423859331691061:True:=⟨⟩
theorem tw16040348084366663253:True:=⟨⟩
theorem tw4366426662732298869:True:=⟨⟩
theorem tw4685964621211627157:True:=⟨⟩
theorem tw5364159129656798901:True:=⟨⟩
theorem tw14567925676414455509:True:=⟨⟩
theorem tw11632816497833330485:True:=⟨⟩
theorem tw2573624132095895349:True:=⟨⟩
theorem tw10505545312237176629:True:=⟨⟩
theorem tw8880528111148023733:True:=⟨⟩
theorem tw10940310168107209750:True:=⟨⟩
theorem tw10945619239907586070:True:=⟨⟩
theorem tw2990369040191145078:True:=⟨⟩
theorem tw1131945325119633558:True:=⟨⟩
theorem tw10065125723981651126:True:=⟨⟩
theorem tw6791554194308481238:True:=⟨⟩
theorem tw2288374015373946134:True:=⟨⟩
theorem tw14094666177000514966:True:=⟨⟩
theorem tw8671511352406495670:True:=⟨⟩
theorem tw16996940159438991830:True:=⟨⟩
theorem tw14683286279136590294:True:=⟨⟩
theorem tw6302318190178837014:True:=⟨⟩
theorem tw1520915052155742774:True:=⟨⟩
theorem tw16733494456144045654:True:=⟨⟩
theorem tw15898575902745141846:True:=⟨⟩
theorem tw1967238134054135414:True:=⟨⟩
theorem tw10582945337629762294:True:=⟨⟩
theorem tw5238624857244370742:True:=⟨⟩
theorem tw11331361640219259734:True:=⟨⟩
theorem tw10829135920363102070:True:=⟨⟩
theorem tw5739127239444162454:True:=⟨⟩
theorem tw16730575819690322934:True:=⟨⟩
theorem tw6454639909085264886:True:=⟨⟩
theorem tw3274004982950890647:True:=⟨⟩
theorem tw7299293571666970935:True:=⟨⟩
theorem tw9076365337439575:True:=⟨⟩
theorem tw9410892828582895959:True:=⟨⟩
theorem tw8904494661804533111:True:=⟨⟩
theorem tw346068019568732535:True:=⟨⟩
theorem tw13709050739212359159:True:=⟨⟩
theorem tw14567674471516940823:True:=⟨⟩
theorem tw4440558716826846743:True:=⟨⟩
theorem tw11754822835805269591:True:=⟨⟩
theorem tw14923939124793904823:True:=⟨⟩
theorem tw115166009131733783:True:=⟨⟩
theorem tw13521534995977471799:True:=⟨⟩
theorem tw508656150022229815:True:=⟨⟩
theorem tw15760299540605796151:True:=⟨⟩
theorem tw1352348801951567767:True:=⟨⟩
theorem tw17511804154062491575:True:=⟨⟩
theorem tw635667051526569943:True:=⟨⟩
theorem tw5242260098496520183:True:=⟨⟩
theorem tw3420577178356685944:True:=⟨⟩
theorem tw15152906790856271032:True:=⟨⟩
theorem tw1041707792108372152:True:=⟨⟩
theorem tw1828071817524892856:True:=⟨⟩
theorem tw16103298091716248824:True:=⟨⟩
theorem tw15069885015985499384:True:=⟨⟩
theorem tw15698019936669165912:True:=⟨⟩
theorem tw3920644034809660792:True:=⟨⟩
theorem tw3664716872091241848:True:=⟨⟩
theorem tw17077193262513535448:True:=⟨⟩
theorem tw2027749064529474072:True:=⟨⟩
theorem tw6968178100381203992:True:=⟨⟩
theorem tw3059914139141544504:True:=⟨⟩
theorem tw15624288283419851320:True:=⟨⟩
theorem tw7607958837421854296:True:=⟨⟩
theorem tw2397142912751933176:True:=⟨⟩
theorem tw3454611272927384536:True:=⟨⟩
theorem tw9820593627513092121:True:=⟨⟩
theorem tw4707981372868503577:True:=⟨⟩
theorem tw17608334224294073369:True:=⟨⟩
theorem tw17189688028236313689:True:=⟨⟩
theorem tw12988287672648135769:True:=⟨⟩
theorem tw7633779898379834489:True:=⟨⟩
theorem tw14565404627103490169:True:=⟨⟩
theorem tw3503711787087458425:True:=⟨⟩
theorem tw12408783779787799673:True:=⟨⟩
theorem tw1930252963968406681:True:=⟨⟩
theorem tw62568921732307129:True:=⟨⟩
theorem tw3072637893508267193:True:=⟨⟩
theorem tw16797533298846385369:True:=⟨⟩
theorem tw5252843353268926713:True:=⟨⟩
theorem tw6527100900634627321:True:=⟨⟩
theorem tw12207276334080329081:True:=⟨⟩
theorem tw11561562347832668569:True:=⟨⟩
theorem tw17412179915509590457:True:=⟨⟩
theorem tw11011633050498878937:True:=⟨⟩
theorem tw562890636491849209:True:=⟨⟩
theorem tw2763485818025368089:True:=⟨⟩
theorem tw6665836970083077913:True:=⟨⟩
theorem tw10679054273535999929:True:=⟨⟩
theorem tw5006729143147586586:True:=⟨⟩
theorem tw10495169450206830618:True:=⟨⟩
theorem tw17060405580354492474:True:=⟨⟩
theorem tw15723370453347058810:True:=⟨⟩
theorem tw4080620913791938682:True:=⟨⟩
theorem tw10753947987610540218:True:=⟨⟩
theorem tw16621730147924895994:True:=⟨⟩
theorem tw14303345150254086522:True:=⟨⟩
theorem tw10377515610735221146:True:=⟨⟩
theorem tw5917862714168701370:True:=⟨⟩
theorem tw4421537191405098490:True:=⟨⟩
theorem tw10477642035733826106:True:=⟨⟩
theorem tw683213878465582650:True:=⟨⟩
theorem tw12079192960176523898:True:=⟨⟩
theorem tw4620081244761250458:True:=⟨⟩
theorem tw10591733696183186106:True:=⟨⟩
theorem tw473233679784952602:True:=⟨⟩
theorem tw2575508836991963962:True:=⟨⟩
theorem tw12638715064003458874:True:=⟨⟩
theorem tw14937172652778955642:True:=⟨⟩
theorem tw5140262558090301434:True:=⟨⟩
theorem tw3900314213986721786:True:=⟨⟩
theorem tw304966729169438779:True:=⟨⟩
theorem tw10246393029456250939:True:=⟨⟩
theorem tw14556365916805393467:True:=⟨⟩
theorem tw8070366324493756507:True:=⟨⟩
theorem tw14188587340512194651:True:=⟨⟩
theorem tw2604236166344668251:True:=⟨⟩
theorem tw7327963483548992667:True:=⟨⟩
theorem tw10745816229736605115:True:=⟨⟩
theorem tw7969903343159339483:True:=⟨⟩
theorem tw8519096113810058779:True:=⟨⟩
theorem tw10358502159587259931:True:=⟨⟩
theorem tw7502414652285952571:True:=⟨⟩
theorem tw7436305226020091483:True:=⟨⟩
theorem tw10586816170662026843:True:=⟨⟩
theorem tw12538174193939257979:True:=⟨⟩
theorem tw1026485865040080507:True:=⟨⟩
theorem tw17841182261504724699:True:=⟨⟩
theorem tw7268355629856346843:True:=⟨⟩
theorem tw1275547992310848315:True:=⟨⟩
theorem tw14123224697499080667:True:=⟨⟩
theorem tw15876989380096006107:True:=⟨⟩
theorem tw11557519723092626395:True:=⟨⟩
theorem tw8055955338814326812:True:=⟨⟩
theorem tw16981846543433593948:True:=⟨⟩
theorem tw16472234920916281436:True:=⟨⟩
theorem tw18089334195616701596:True:=⟨⟩
theorem tw4677881439942996156:True:=⟨⟩
theorem tw11512575671219582172:True:=⟨⟩
theorem tw2715055867497438460:True:=⟨⟩
theorem tw16246235165984428412:True:=⟨⟩
theorem tw10141446827295560092:True:=⟨⟩
theorem tw16020160106242440668:True:=⟨⟩
theorem tw12317548292941105692:True:=⟨⟩
theorem tw6168404706823886364:True:=⟨⟩
theorem tw10193469911784600124:True:=⟨⟩
theorem tw7649557886486224444:True:=⟨⟩
theorem tw1380137727134285468:True:=⟨⟩
theorem tw12295172199900807900:True:=⟨⟩
theorem tw8578469565311910652:True:=⟨⟩
theorem tw16276268876080255740:True:=⟨⟩
theorem tw5053005387398381340:True:=⟨⟩
theorem tw3347889587804334908:True:=⟨⟩
theorem tw4950085280840945500:True:=⟨⟩
theorem tw9445659141252622204:True:=⟨⟩
theorem tw9646063331371389852:True:=⟨⟩
theorem tw12924836726451695645:True:=⟨⟩
theorem tw8688759362834608189:True:=⟨⟩
theorem tw12086015581615777917:True:=⟨⟩
theorem tw3859811780911130781:True:=⟨⟩
theorem tw11641722332799531293:True:=⟨⟩
theorem tw2799472701961973053:True:=⟨⟩
theorem tw7722815258693582173:True:=⟨⟩
theorem tw10117814597066751389:True:=⟨⟩
theorem tw14383939892885860861:True:=⟨⟩
theorem tw6452313472284262941:True:=⟨⟩
theorem tw3761234933637292605:True:=⟨⟩
theorem tw14145627592801710749:True:=⟨⟩
theorem tw5649148485441940157:True:=⟨⟩
theorem tw9603114636836074205:True:=⟨⟩
theorem tw6616160348461168381:True:=⟨⟩
theorem tw6864194815972739837:True:=⟨⟩
theorem tw9970800537687150397:True:=⟨⟩
theorem tw5363460739958240125:True:=⟨⟩
theorem tw422686899061298109:True:=⟨⟩
theorem tw16662037025619759069:True:=⟨⟩
theorem tw1472157164797850589:True:=⟨⟩
theorem tw8808825149944921150:True:=⟨⟩
theorem tw4819060047800483998:True:=⟨⟩
theorem tw6291589635216518302:True:=⟨⟩
theorem tw9002584544177740990:True:=⟨⟩
theorem tw12358370160321433822:True:=⟨⟩
theorem tw10988205308546001118:True:=⟨⟩
theorem tw16578365194227032414:True:=⟨⟩
theorem tw1958980479904592286:True:=⟨⟩
theorem tw12415007551523643998:True:=⟨⟩
theorem tw4402452874149356158:True:=⟨⟩
theorem tw17126111211175342846:True:=⟨⟩
theorem tw14462732189137011518:True:=⟨⟩
theorem tw13830175564194896862:True:=⟨⟩
theorem tw17618449694673053694:True:=⟨⟩
theorem tw10458400324447950911:True:=⟨⟩
theorem tw3648749231623762175:True:=⟨⟩
theorem tw2210319275878068543:True:=⟨⟩
theorem tw2055481243301117279:True:=⟨⟩
theorem tw16833766056223417727:True:=⟨⟩
theorem tw13560137354068000159:True:=⟨⟩
theorem tw8789744641463972287:True:=⟨⟩
theorem tw459119715455400383:True:=⟨⟩
theorem tw12990328801915511263:True:=⟨⟩
theorem tw14309828628102825535:True:=⟨⟩
theorem tw14922595493659917919:True:=⟨⟩
theorem tw11398515582951540319:True:=⟨⟩
theorem tw7825880407743720095:True:=⟨⟩
theorem tw14933545530595699423:True:=⟨⟩
theorem tw13940739899555306271:True:=⟨⟩
theorem tw8005435738524826463:True:=⟨⟩
theorem tw5315425524316914559:True:=⟨⟩
theorem tw13598528672438120383:True:=⟨⟩
theorem tw8417127158388912095:True:=⟨⟩
theorem tw14065912905792330751:True:=⟨⟩
theorem tw15086535683374178303:True:=⟨⟩
theorem tw8814104201955042155:True:=⟨⟩
end PySem.W.Fast
namespace My
open PySem L2 PyProof.Rows
structure Defs (K:PySem.W.Frag) (mg:Str → Option Value) (CF CR CB CE cK cN cF cT cI cX cM cR:Addr):Prop where
  T:Nm mg
  kd:Kd K mg CF CR
  kc:Kc K mg CF CR CB
  R:Rf K mg CE cK cN cF cT cI cX cM cR
  Z:Rz K mg "NoText" CE cX [cK,cN,cT,cI,cF,cM,cR]
  nal:mg "all" = none
  nst:mg "str" = none
  nz:mg "zip" = none
  nsu:mg "sum" = none
  mf:∃ t,mg "MOST_FIGURES" = some (.int 60 t)
  mo:∃ t,mg "MOST" = some (.int 7 t)
  fi:∃ t,mg "FIGURES" = some (.str "0123456789" t)
  d1:Here K mg "divisor" ZcM
  d2:Here K mg "is_whole" Zbh
  d3:Here K mg "is_prime" Zcb
  t1:Here K mg "show_number" Zbo
  t2:Here K mg "need_text" ZbM
  t3:Here K mg "read_figures" Zbe
  t4:Here K mg "read_whole" Zbu
  t5:Here K mg "read_fraction" Za9
  t6:Here K mg "read_rest" ZbN
  t7:Here K mg "read_number" Zbp
  t8:Here K mg "show_numbers" Zbd
  t9:Here K mg "show_table" Zbt
  t10:Here K mg "read_row" Zcc
  t11:Here K mg "read_table" Zbv
  l1:Here K mg "_law_whole" ZcN
  l2:Here K mg "_law_divisor" ZbO
  l3:Here K mg "_law_is_prime" Zbw
  l4:Here K mg "_law_prime" ZcO
  l5:Here K mg "_law_kind" Zdz
  l6:Here K mg "_law_lowest" Zcd
  l7:Here K mg "_law_drawn" ZcP
  l8:Here K mg "_law_shown" ZcQ
  l9:Here K mg "_law_cell" ZdA
  l10:Here K mg "_law_rows" ZdB
  l11:Here K mg "_law_spoiled" ZbP
  l12:Here K mg "_law_figures" ZbQ
  l13:Here K mg "_law_number_told" Zba
  l14:Here K mg "_law_number_is" Zbq
  l15:Here K mg "_law_right" ZcR
  l16:Here K mg "_law_told" ZdD
  l17:Here K mg "_law_text" ZdC
  l18:Here K mg "_law_table_is" Zbx
  r9:HereM K CR "is_number" "Rests.is_number" ZaW
  i1:HereI K CR "Rests.__init__" Za1
  lw:Here K mg "law" ZhV
theorem all_mk {l:PySem.W.OpenLaw} {w:World} {K:PySem.W.Frag} {mg:Str → Option Value} {fa CF CR CB CE cK cN cF cT cI cX cM cR:Addr} (hfa:mg "law" = some (.ref fa)) (D:Defs K mg CF CR CB CE cK cN cF cT cI cX cM cR) :
    ∃ fd:FuncData,(∀ (s:Shared) (v:Value),BindsTo s fd ⟨[v],[]⟩ [("_law_script", v)]) ∧ ∀ base:Heap,K.In base → base.Ns mainGlobals mg → FnOk l.prog w K mg base CX0 9 fa fd ["_law_script"] (sp_law K):=by
  obtain ⟨f,fd,F,m⟩:=D.lw.ex
  have e:=hfa.symm.trans m
  cases e
  refine ⟨fd,?_,fun base _ _ => ?_⟩
  · obtain ⟨oc,od,kV,doc,pm,an,cdv,ct,osl,rfl,lk,hcd⟩:=F.ex
    exact fun s v => .of_eq rfl
  · have T:=D.T
    have kd:=D.kd
    have g1:Has l.prog w K mg base "divisor" 1 _ _:=Zft D.d1 T
    have g2:Has l.prog w K mg base "is_whole" 1 _ _:=ZeE D.d2 T
    have g3:Has l.prog w K mg base "is_prime" 1 _ _:=ZeF D.d3 T
    have g6:Has l.prog w K mg base "is_whole" 1 _ _:=Zef D.d2 T
    have ai:=Zg3 D.i1 kd.clR kd.nP g2 g3
    have mi:=Zgr D.r9 kd.clR kd.nP g6
    have t1:Has l.prog w K mg base "show_number" 1 _ _:=Zc3 D.t1 T D.nst kd D.kc
    have t2:HasX l.prog w K mg base "need_text" 1 _ _:=Zeh D.t2 T D.nst D.Z.c
    have t3:HasX l.prog w K mg base "read_figures" 1 _ _:=ZcU D.t3 T D.nal D.fi D.mf D.Z.c
    have t4:=ZdF D.t4 D.Z.c t3
    have t5:=Zcq D.t5 T D.Z.c (g1.mono (by decide)) (t3.mono (by decide)) t4
    have t6:=Zej D.t6 kd.clR D.Z.c mi (t3.mono (by decide))
    have t7:=Zc2 D.t7 T kd D.kc (t2.mono (by decide)) t5 t6
    have t8:=ZcX D.t8 t1
    have t9:=ZdH D.t9 t8
    have t10:=ZeJ D.t10 T D.mo D.Z.c t7
    have t11:=ZdI D.t11 T D.nal D.mo D.Z.c (t2.mono (by decide)) t10
    have w1:Has l.prog w K mg base "_law_whole" 1 _ _:=Zfv D.l1 T
    have w2:Has l.prog w K mg base "_law_divisor" 1 _ _:=Zd8 D.l2 T
    have w3:Has l.prog w K mg base "_law_is_prime" 1 _ _:=ZdE D.l3
    have w4:=ZeH D.l4 w3
    have w5:=Zgo D.l5 kd ai
    have w6:=ZeG D.l6 w2
    have w7:=Zfw D.l7 w6
    have w8:Has l.prog w K mg base "_law_shown" 1 _ _:=ZfA D.l8 D.nst
    have w9:Has l.prog w K mg base "_law_cell" 1 _ _:=Zgq D.l9 T
    have w10:=Zgy D.l10 T w7 (w9.mono (by decide))
    have w11:Has l.prog w K mg base "_law_spoiled" 1 _ _:=Zc4 D.l11 T
    have w12:Has l.prog w K mg base "_law_figures" 1 _ _:=Zem D.l12 T
    have w13:=ZfB D.l13 T D.nst w12 w2
    have w14:=Zc6 D.l14 T w1
    have w16:=ZeM D.l16 T D.nst w13
    have w17:=Zgx D.l17 w8
    have w18:=ZcY D.l18 T D.nz w14
    have w15:=Zeq D.l15 T D.R D.Z (w16.mono (by decide)) t11 (w18.mono (by decide))
    exact ZiM F T D.nst D.nsu (w4.mono (by decide)) (w5.mono (by decide)) (w10.mono (by decide)) (w17.mono (by decide)) (w16.mono (by decide)) (t9.mono (by decide)) (w11.mono (by decide)) (w15.mono (by decide))
theorem walk {l:PySem.W.OpenLaw} {q:Program} {loose:List Str} {XP:(Str → Option Value) → Heap → Prop} {YP:World → Heap → Prop} {d:DefRec} {K:Params → PySem.W.Frag} (hn:l.most = some 63) (hdf:d.params.defaults = [])
    (hY:∀ (w:World) (h:Heap),YP w h → (K w.params).In h)
    (F:∀ (w:World) (mg:Str → Option Value) (fa:Addr) (h:Heap),(K w.params).In h → h.Ns mainGlobals mg → mg d.name = some (.ref fa) →
      ∃ fd:FuncData,(∀ (s:Shared) (u:Value),BindsTo s fd ⟨[u],[]⟩ [("_law_script", u)]) ∧ ∀ base:Heap,(K w.params).In base → base.Ns mainGlobals mg → FnOk l.prog w (K w.params) mg base CX0 9 fa fd ["_law_script"] (sp_law (K w.params))) :
    PySem.W.WalkO q loose XP YP l.row.toRowW d [] (fun f vs => PySem.call f vs) :=
  L2.walk_ofB (n:=63) (k:=9) (x := "_law_script") (CX:=fun _ => CX0) (sp:=fun w => sp_law (K w.params)) hn (by decide) hdf ⟨rfl,by decide,by decide⟩ hY F (fun _ _ a ns hl hb _ hS => ⟨a,ns,rfl,hS,hl,hb,fun _ => rfl⟩) fun _ _ _ _ _ z => z
theorem kd_mk {K:PySem.W.Frag} {h:Heap} {mg:Str → Option Value} {CF CR:Addr} (X:K.In h) (G:h.Ns mainGlobals mg) (aF:PySem.W.nsIn K mainGlobals "Fractions" = some (some (.ref CF))) (aR:PySem.W.nsIn K mainGlobals "Rests" = some (some (.ref CR)))
    (p1:PySem.W.plainGet K CF Str.empty = true) (p2:PySem.W.hasDictIn K CF = true) (p3:PySem.W.plainOver K CF = true) (p4:PySem.W.findIn K (.ref CF) "__setattr__" = some (some (.builtin "object.__setattr__")))
    (q1:PySem.W.plainGet K CR Str.empty = true) (q2:PySem.W.hasDictIn K CR = true) (q3:PySem.W.plainOver K CR = true) (q4:PySem.W.findIn K (.ref CR) "__setattr__" = some (some (.builtin "object.__setattr__")))
    (nP:PySem.W.findIn K (.ref CR) "prime" = some none) (mk:PySem.W.makesIn K CF = true) (mi:PySem.W.findIn K (.ref CF) "__init__" = some (some (.builtin "object.__init__"))) (kp:PySem.W.keepIn K (.ref CF) = true):Kd K mg CF CR :=
  ⟨⟨p1,p2,p3,p4⟩,⟨q1,q2,q3,q4⟩,nP,⟨mk,mi,kp⟩,PySem.W.mg_of X G aF,PySem.W.mg_of X G aR⟩
theorem int_mk {mg:Str → Option Value} {x:Str} {v:Value} {i:Int} (h1:mg x = some v) (h2:∃ t,v = .int i t):∃ t,mg x = some (.int i t):=by
  obtain ⟨t,rfl⟩:=h2
  exact ⟨t,h1⟩
theorem str_mk {mg:Str → Option Value} {x:Str} {v:Value} {i:Str} (h1:mg x = some v) (h2:∃ t,v = .str i t):∃ t,mg x = some (.str i t):=by
  obtain ⟨t,rfl⟩:=h2
  exact ⟨t,h1⟩
theorem cn_mk {K:PySem.W.Frag} {h:Heap} {mg:Str → Option Value} {x:Str} {C:Addr} (X:K.In h) (G:h.Ns mainGlobals mg) (a:PySem.W.nsIn K mainGlobals x = some (some (.ref C))) (b:PySem.W.isClsIn K C = true) (c:PySem.W.typeIn K (.ref C) = some (.type "type")):CN K mg x C:=⟨PySem.W.mg_of X G a,b,c⟩
theorem xcls_mk {K:PySem.W.Frag} {C:Addr} (ga:PySem.W.findIn K (.ref C) "__getattribute__" = some (some (.builtin "BaseException.__getattribute__"))) (ha:PySem.W.findIn K (.ref C) "__getattr__" = some none) (cl:PySem.W.findIn K (.ref C) "__class__" = some (some (.builtin "object.__class__")))
    (hn:PySem.W.specialIn K (.builtin "object.__class__") "__get__" = some (some (.builtin "getset_descriptor.__get__"))) (tk:PySem.W.takesIn K (.builtin "object.__class__") = some true) (ob:PySem.W.mroIn K C (.type "object") = some true) (be:PySem.W.mroIn K C (.type "BaseException") = some true) (hd:PySem.W.hasDictIn K C = true):XCls K C:=⟨ga,ha,cl,hn,tk,ob,be,hd⟩
theorem apart_cons {K:PySem.W.Frag} {C D:Addr} {r:List Addr} (a:PySem.W.mroIn K C (.ref D) = some false) (n:C ≠ D) (z:Zg4 K C r):Zg4 K C (D :: r):=⟨⟨a,n⟩,z⟩
end My
open PySem PySem.W PyProof.Rows
local macro_rules | `(tactic| walk_at "xcls") => `(tactic| exact My.xcls_mk (by k_is) (by k_is) (by k_is) (by k_is) (by k_is) (by k_is) (by k_is) (by k_is))
local macro_rules | `(tactic| walk_at "apart") => `(tactic| repeat (first | exact True.intro | (refine' My.apart_cons (by k_is) (by decide) ?_)))
set_option maxRecDepth 100000 in
set_option maxHeartbeats 0 in
theorem PySem.Challenge.cw_turnframe_k82_tables_as_texts_holds : PySem.Challenge.rw_turnframe_k82_tables_as_texts.Holds := by
  w_on; o_law; k_head; (case hw => w_witness2)
  k_fill
  refine My.walk (l:=PySem.Challenge.rw_turnframe_k82_tables_as_texts) rfl rfl (fun w h Y => PySem.W.kIn_of Y) ?F
  case F =>
    intro w mg fa h KX G hmg
    have kd:=by
      refine' My.kd_mk KX G ?e1 ?e2 ?e3 ?e4 ?e5 ?e6 ?e7 ?e8 ?e9 ?e10 ?e11 ?e12 ?e13 ?e14
      (case e1 => k_is); (case e2 => k_is); (case e3 => k_is); (case e4 => k_is); (case e5 => k_is); (case e6 => k_is); (case e7 => k_is)
      (case e8 => k_is); (case e9 => k_is); (case e10 => k_is); (case e11 => k_is); (case e12 => k_is); (case e13 => k_is); (case e14 => k_is)
    have bK:=by
      refine' My.cn_mk (x := "Kind") KX G ?a ?b ?c
      (case a => k_is); (case b => k_is); (case c => k_is)
    have bF:=by
      refine' My.cn_mk (x := "Fractions") KX G ?a ?b ?c
      (case a => k_is); (case b => k_is); (case c => k_is)
    have bR:=by
      refine' My.cn_mk (x := "Rests") KX G ?a ?b ?c
      (case a => k_is); (case b => k_is); (case c => k_is)
    have nE:=by
      refine' My.cn_mk (x := "FrameError") KX G ?a ?b ?c
      (case a => k_is); (case b => k_is); (case c => k_is)
    have nk:=by
      refine' My.cn_mk (x := "NoKind") KX G ?a ?b ?c
      (case a => k_is); (case b => k_is); (case c => k_is)
    have nn:=by
      refine' My.cn_mk (x := "NoNumber") KX G ?a ?b ?c
      (case a => k_is); (case b => k_is); (case c => k_is)
    have nf:=by
      refine' My.cn_mk (x := "NoFit") KX G ?a ?b ?c
      (case a => k_is); (case b => k_is); (case c => k_is)
    have nt:=by
      refine' My.cn_mk (x := "NoTurn") KX G ?a ?b ?c
      (case a => k_is); (case b => k_is); (case c => k_is)
    have ni:=by
      refine' My.cn_mk (x := "NoInverse") KX G ?a ?b ?c
      (case a => k_is); (case b => k_is); (case c => k_is)
    have nx:=by
      refine' My.cn_mk (x := "NoText") KX G ?a ?b ?c
      (case a => k_is); (case b => k_is); (case c => k_is)
    have nm:=by
      refine' My.cn_mk (x := "NoName") KX G ?a ?b ?c
      (case a => k_is); (case b => k_is); (case c => k_is)
    have nr:=by
      refine' My.cn_mk (x := "NoRow") KX G ?a ?b ?c
      (case a => k_is); (case b => k_is); (case c => k_is)
    refine My.all_mk hmg ⟨?T,kd,⟨bK,bF,bR,⟨?k1,?k2,?k3,?k4⟩,⟨?k5,?k6,?k7,?k8⟩,⟨?k9,?k10⟩,⟨?k11,?k12⟩,⟨?k13,?k14⟩,⟨?k15,?k16⟩⟩,⟨nE,?eb,nk,nn,nf,nt,ni,nx,nm,nr,PySem.W.mg_none_of KX G ?ve⟩,⟨⟨?Zx,nx.m,?Zi⟩,?Ze,?Zv,?Zo⟩,PySem.W.mg_none_of KX G ?nal,PySem.W.mg_none_of KX G ?nst,PySem.W.mg_none_of KX G ?nz,PySem.W.mg_none_of KX G ?nsu,?mf,?mo,?fi,?d1,?d2,?d3,?t1,?t2,?t3,?t4,?t5,?t6,?t7,?t8,?t9,?t10,?t11,?l1,?l2,?l3,?l4,?l5,?l6,?l7,?l8,?l9,?l10,?l11,?l12,?l13,?l14,?l15,?l16,?l17,?l18,?r9,?i1,?lw⟩
    case k1 => k_is
    case k2 => k_is
    case k3 => k_is
    case k4 => k_is
    case k5 => k_is
    case k6 => k_is
    case k7 => k_is
    case k8 => k_is
    case k9 => k_is
    case k11 => k_is
    case k13 => k_is
    case k15 => k_is
    case k10 => decide
    case k12 => decide
    case k14 => decide
    case k16 => decide
    case eb => k_is
    case ve => k_is
    case Zx => walk_at "xcls"
    case Zi => k_exc
    case Ze => k_is
    case Zv => k_is
    case Zo => walk_at "apart"
    case nal => k_is
    case nst => k_is
    case nz => k_is
    case nsu => k_is
    case mf =>
      refine' My.int_mk (PySem.W.mg_of KX G ?e1) ?e2
      (case e1 => k_is); (case e2 => exact ⟨_,rfl⟩)
    case mo =>
      refine' My.int_mk (PySem.W.mg_of KX G ?e1) ?e2
      (case e1 => k_is); (case e2 => exact ⟨_,rfl⟩)
    case fi =>
      refine' My.str_mk (PySem.W.mg_of KX G ?e1) ?e2
      (case e1 => k_is); (case e2 => exact ⟨_,rfl⟩)
    case T =>
      refine' My.nm_mk (PySem.W.mg_of KX G ?e1) ?e2 (PySem.W.mg_none_of KX G ?e3) (PySem.W.mg_none_of KX G ?e4) (PySem.W.mg_none_of KX G ?e5) (PySem.W.mg_none_of KX G ?e6) (PySem.W.mg_none_of KX G ?e7) (PySem.W.mg_none_of KX G ?e8) (PySem.W.mg_none_of KX G ?e9) (PySem.W.mg_none_of KX G ?e10)
      (case e1 => k_is); (case e2 => exact ⟨_,rfl⟩); (case e3 => k_is); (case e4 => k_is); (case e5 => k_is); (case e6 => k_is); (case e7 => k_is); (case e8 => k_is); (case e9 => k_is); (case e10 => k_is)
    case i1 =>
      refine' L2.hereI_mk ?e1 ?e2 ?e3 ?e4 ?e5 ?e6 ?e7
      (case e1 => k_is); (case e2 => k_is); (case e3 => k_is); (case e4 => k_is); (case e5 => k_is); (case e6 => k_is); (case e7 => k_is)
    all_goals first
      | (refine' L2.here_mk KX G ?y1 ?y2 ?y3 ?y4
         (case y1 => k_is); (case y2 => k_is); (case y3 => k_is); (case y4 => k_is))
      | (refine' L2.hereM_mk ?z1 ?z2 ?z3 ?z4 ?z5
         (case z1 => k_is); (case z2 => k_is); (case z3 => k_is); (case z4 => k_is); (case z5 => k_is))
