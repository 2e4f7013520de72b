import PyProof.Rows.All
import Wide.All
import OpenK.AllK
import Wide.FinOn
import Lean
import PyProof.EqAt
import PyProof.EqKinds
import PyProof.TupleCall
import PySem.Challenge.RW_turnframe_k43_polys_as_numbers
set_option Elab.async false
set_option linter.all false
set_option maxRecDepth 100000
namespace L2
open PySem PySem.Spec PyProof.Rows
abbrev Key:=Sum Int Str
def Zk5:Key → Value → Bool
  | .inl k,v => Value.isInt k v
  | .inr x,v => Value.isStrOf x v
def ZmK (w:World):Key → Int
  | .inl k => hashInt k
  | .inr x => hashStr w x
theorem ZaK:∀ {k:Key} {v:Value},Zk5 k v = true → (∃ i t,k = Sum.inl i ∧ v = Value.int i t) ∨ (∃ x t,k = Sum.inr x ∧ v = Value.str x t)
  | .inl i,v,h => by
    obtain ⟨t,e⟩:=Value.isInt_shape (k:=i) (v:=v) h
    exact .inl ⟨i,t,rfl,e⟩
  | .inr x,v,h => by
    obtain ⟨t,e⟩:=Value.isStrOf_shape (x:=x) (v:=v) h
    exact .inr ⟨x,t,rfl,e⟩
theorem Zk6 (a b:Int):decide ((Sum.inl a:Key) = Sum.inl b) = (a == b):=by
  by_cases e:a = b
  · subst e; simp
  · have h:¬ (Sum.inl a:Key) = Sum.inl b:=fun q => e (Sum.inl.inj q)
    rw [decide_eq_false h]
    exact (beq_eq_false_iff_ne.mpr e).symm
theorem Zk7 (a b:Str):decide ((Sum.inr a:Key) = Sum.inr b) = decide (a = b):=by
  by_cases e:a = b
  · subst e; simp
  · have h:¬ (Sum.inr a:Key) = Sum.inr b:=fun q => e (Sum.inr.inj q)
    rw [decide_eq_false h,decide_eq_false e]
theorem Zk8 (a:Int) (b:Str):decide ((Sum.inl a:Key) = Sum.inr b) = false:=decide_eq_false (fun q => nomatch q)
theorem Zk9 (a:Str) (b:Int):decide ((Sum.inr a:Key) = Sum.inl b) = false:=decide_eq_false (fun q => nomatch q)
def ZcG (prog:Program) (w:World):PySem.KeyKind prog w Key where
  is:=Zk5
  hash:=ZmK w
  inj:=fun v a b ha hb => by
    rcases ZaK ha with ⟨i,t,rfl,rfl⟩ | ⟨x,t,rfl,rfl⟩
    · rcases ZaK hb with ⟨j,u,rfl,e⟩ | ⟨y,u,rfl,e⟩
      · injection e with e1 _; rw [e1]
      · exact nomatch e
    · rcases ZaK hb with ⟨j,u,rfl,e⟩ | ⟨y,u,rfl,e⟩
      · exact nomatch e
      · injection e with e1 _; rw [e1]
  byValue:=fun k v h => by
    rcases ZaK h with ⟨i,t,rfl,rfl⟩ | ⟨x,t,rfl,rfl⟩ <;> rfl
  pyHash:=fun hv h => by
    rcases ZaK hv with ⟨i,t,rfl,rfl⟩ | ⟨x,t,rfl,rfl⟩
    · exact wpAny_pyHash_int h
    · exact wpAny_pyHash_str h
  eqBool:=fun hu hv h => by
    rcases ZaK hu with ⟨i,t,rfl,rfl⟩ | ⟨x,t,rfl,rfl⟩
    · rcases ZaK hv with ⟨j,u,rfl,rfl⟩ | ⟨y,u,rfl,rfl⟩
      · rw [Zk6] at h; exact wpAny_eqBool_int h
      · rw [Zk8] at h; exact SeqAt.EqAt.int_str i t y u _ _ _ _ h
    · rcases ZaK hv with ⟨j,u,rfl,rfl⟩ | ⟨y,u,rfl,rfl⟩
      · rw [Zk9] at h; exact SeqAt.EqAt.str_int x t j u _ _ _ _ h
      · rw [Zk7] at h; exact wpAny_eqBool_str h
  «strs»:=fun k x t v h => by
    rcases ZaK h with ⟨i,u,rfl,e⟩ | ⟨y,u,rfl,e⟩
    · exact nomatch e
    · injection e with e1 _
      subst e1
      cases v <;> rfl
end L2
namespace L2
open PySem PySem.Spec PyProof.Rows
inductive V where
  | non | bl (b:Bool) | int (i:Int) | str (x:Str) | byt (b:Array UInt8) | flt (b:UInt64) | ref (a:Addr) | ty (n:String)
  deriving DecidableEq
def RelV:V → Value → Prop
  | .non,u => u = Value.none
  | .bl b,u => u = Value.bool b
  | .int i,u => ∃ t,u = Value.int i t
  | .str x,u => ∃ t,u = Value.str x t
  | .byt b,u => ∃ t,u = Value.bytes b t
  | .flt b,u => ∃ t,u = Value.float b t
  | .ref a,u => u = Value.ref a
  | .ty n,u => u = Value.type n
abbrev Vals:List V → List Value → Prop:=Paired RelV
theorem Vals.length {xs:List V} {us:List Value} (r:Vals xs us):xs.length = us.length:=Paired.length r
theorem Vals.get:∀ {xs:List V} {us:List Value} {i:Nat} {x:V},Vals xs us → xs[i]? = some x → ∃ u,us[i]? = some u ∧ RelV x u
  | _,_,_,_,.nil,e => by simp at e
  | _,_,0,_,.cons r _,e => by simp at e; subst e; exact ⟨_,rfl,r⟩
  | _,_,i + 1,x,.cons _ t,e => by
    obtain ⟨u,h1,h2⟩:=Vals.get (i:=i) (x:=x) t (by simpa using e)
    exact ⟨u,by simpa using h1,h2⟩
theorem Vals.set {x:V} {u:Value} (r:RelV x u):∀ {xs:List V} {us:List Value} (i:Nat),Vals xs us → Vals (xs.set i x) (us.set i u)
  | _,_,_,.nil => .nil
  | _,_,0,.cons _ t => .cons r t
  | _,_,i + 1,.cons q t => .cons q (Vals.set r i t)
theorem Vals.append:∀ {xs ys:List V} {us ws:List Value},Vals xs us → Vals ys ws → Vals (xs ++ ys) (us ++ ws)
  | _,_,_,_,.nil,s => s
  | _,_,_,_,.cons r t,s => .cons r (Vals.append t s)
theorem Vals.take:∀ {xs:List V} {us:List Value} (n:Nat),Vals xs us → Vals (xs.take n) (us.take n)
  | _,_,0,_ => .nil
  | _,_,_ + 1,.nil => .nil
  | _,_,n + 1,.cons r t => .cons r (Vals.take n t)
theorem Vals.drop:∀ {xs:List V} {us:List Value} (n:Nat),Vals xs us → Vals (xs.drop n) (us.drop n)
  | _,_,0,r => r
  | _,_,_ + 1,.nil => .nil
  | _,_,n + 1,.cons _ t => Vals.drop n t
theorem Vals.none_of:∀ {xs:List V} {us:List Value} {i:Nat},Vals xs us → xs[i]? = none → us[i]? = none:=fun {xs us i} r e => by
  have h1:=r.length
  have h2:xs.length ≤ i:=List.getElem?_eq_none_iff.mp e
  exact List.getElem?_eq_none_iff.mpr (by omega)
def RelO:Option V → Option Value → Prop
  | some v,some u => RelV v u
  | none,none => True
  | _,_ => False
def KV {κ:Type}:List (κ × V) → List (κ × Value) → Prop:=Paired fun (p:κ × V) (q:κ × Value) => p.1 = q.1 ∧ RelV p.2 q.2
def kV:Key → V
  | .inl i => .int i
  | .inr x => .str x
inductive HO where
    | lst (xs:List V)
    | tup (xs:List V)
    | dK (kvs:List (Key × V)) | dT (kvs:List (List Key × V))
    | set (S:Int → Bool) (n:Nat)
    | ins (C dx:Addr) (fs:List (Str × V))
    | own (x:Addr)
    | xd (fs:List (Str × V))
    | met (f x:Addr)
    | rng (lo hi:Int)
    | frz (o:Obj) (u:HO)
    | tbl (ps:Array Value)
    | ext (φ:Heap → Prop)
abbrev Hp:=Addr → Option HO
def upd (H:Hp) (a:Addr) (o:HO):Hp:=fun b => if b = a then some o else H b
theorem Zaf {H:Hp} {a:Addr} {o:HO}:upd H a o a = some o:=by unfold upd; rw [if_pos rfl]
theorem Zat {H:Hp} {a b:Addr} {o:HO} (h:b ≠ a):upd H a o b = H b:=by unfold upd; rw [if_neg h]
theorem Zav {H:Hp} {a b:Addr} {o:HO} (h:H a = some o) (h':H b = none):a ≠ b:=by
  intro e; subst e; rw [h] at h'; cases h'
section
variable (P:Program) (w:World)
def ObjOk (H:Hp) (h:Heap) (a:Addr):HO → Prop
  | .lst xs => xs.length ≤ sizeLine ∧ ∃ (its:List Value) (n:Nat),Vals xs its ∧ h.get? a = some { cls:=.type "list", data:=.seq its.toArray n }
  | .tup xs => xs.length ≤ sizeLine ∧ ∃ its:List Value,Vals xs its ∧ IsTup h a its.toArray
  | .dK kvs => kvs.length ≤ sizeLine ∧ (a == sysModules) = false ∧ ∃ vs,KV kvs vs ∧ h.DictOf (ZcG P w) a vs
  | .dT kvs => kvs.length ≤ sizeLine ∧ (a == sysModules) = false ∧ ∃ xs:List (List Key × Addr × Value),
      Paired (fun (p:List Key × V) (q:List Key × Addr × Value) => p.1 = q.1 ∧ H q.2.1 = some (.tup (p.1.map kV)) ∧ RelV p.2 q.2.2) kvs xs ∧
      ∃ o es ep,h.get? a = some o ∧ o.ExactDict ∧ o.data = .dict es ep ∧ es.toList = xs.map (entryOfKey (tupleKind (ZcG P w))) ∧ (xs.map (·.1)).Nodup
  | .set S n => h.SetOf (intKind P w) a S n
  | .ins C dx fs => H dx = some (.own a) ∧ fs.length ≤ 1000 ∧ dx ≠ a ∧ h.get? a = some (PySem.W.instObj C dx) ∧
      ∃ mA,h.Ns1 dx mA ∧ (∀ f,RelO (fs.lookup f) (mA f)) ∧ PySem.Within mA (fs.map (·.1))
  | .own _ => ∃ o,h.get? a = some o
  | .xd fs => ∃ mA,h.Ns1 a mA ∧ ∀ f,RelO (fs.lookup f) (mA f)
  | .rng lo hi => ∃ t u v,h.get? a = some { cls:=.type "range", data:=.fields #[.int lo t,.int hi u,.int 1 v] }
  | .frz o u => h.get? a = some o ∧ ObjOk H h a u
  | .tbl ps => h.get? a = some { cls:=.none,data:=.fields ps }
  | .met f x => h.get? a = some (PySem.W.methodObj (.ref f) (.ref x))
  | .ext φ => φ h ∧ (∃ o,h.get? a = some o) ∧ ∀ h1 h2:Heap,φ h1 → (∀ o,h1.get? a = some o → h2.get? a = some o) → φ h2
def HOk (H:Hp) (h:Heap):Prop:=∀ a o,H a = some o → ObjOk P w H h a o
end
section
variable {P:Program} {w:World} {H H':Hp} {h h':Heap} {a:Addr} {o:HO}
theorem ObjOk.lt (x:ObjOk P w H h a o):a < h.objs.size:=by
  cases o with
  | lst xs => obtain ⟨_,_,_,_,e⟩:=x; exact Heap.lt_size e
  | tup xs => obtain ⟨_,_,_,p⟩:=x; exact p.lt
  | dK kvs => obtain ⟨_,_,_,_,o,_,_,e,_⟩:=x; exact Heap.lt_size e
  | dT kvs => obtain ⟨_,_,_,_,o,_,_,e,_⟩:=x; exact Heap.lt_size e
  | set S n => obtain ⟨o,_,_,_,e,_⟩:=x; exact Heap.lt_size e
  | ins C dx fs => obtain ⟨_,_,_,e,_⟩:=x; exact Heap.lt_size e
  | own y => obtain ⟨_,e⟩:=x; exact Heap.lt_size e
  | xd fs => obtain ⟨_,⟨_,_,_,e,_⟩,_⟩:=x; exact Heap.lt_size e
  | rng lo hi => obtain ⟨_,_,_,e⟩:=x; exact Heap.lt_size e
  | frz ob u => obtain ⟨e,_⟩:=x; exact Heap.lt_size e
  | tbl ps => exact Heap.lt_size (show h.get? a = some _ from x)
  | met f y => exact Heap.lt_size (show h.get? a = some _ from x)
  | ext φ => obtain ⟨_,⟨_,e⟩,_⟩:=x; exact Heap.lt_size e
theorem Paired.mapP {α β:Type} {F G:α → β → Prop}:∀ {l₁:List α} {l₂:List β},Paired F l₁ l₂ → (∀ a b,F a b → G a b) → Paired G l₁ l₂
  | _,_,.nil,_ => .nil
  | _,_,.cons r t,f => .cons (f _ _ r) (Paired.mapP t f)
theorem ObjOk.stay (x:ObjOk P w H h a o) (k:∀ b u,(b = a ∨ H b = some (.own a)) → h.get? b = some u → h'.get? b = some u)
    (ho:∀ b,H b = some (.own a) → H' b = some (.own a)) (ht:∀ b xs,H b = some (.tup xs) → H' b = some (.tup xs)):ObjOk P w H' h' a o:=by
  induction o with
  | lst xs => obtain ⟨z,its,n,r,e⟩:=x; exact ⟨z,its,n,r,k _ _ (.inl rfl) e⟩
  | tup xs => obtain ⟨z,its,r,ob,e,c⟩:=x; exact ⟨z,its,r,ob,k _ _ (.inl rfl) e,c⟩
  | dK kvs => obtain ⟨z,y,vs,r,ob,es,ep,e,c⟩:=x; exact ⟨z,y,vs,r,ob,es,ep,k _ _ (.inl rfl) e,c⟩
  | dT kvs =>
    obtain ⟨z,y,xs,r,ob,es,ep,e,c⟩:=x
    exact ⟨z,y,xs,Paired.mapP r fun p q z => ⟨z.1,ht _ _ z.2.1,z.2.2⟩,ob,es,ep,k _ _ (.inl rfl) e,c⟩
  | set S n => obtain ⟨ob,es,ep,t,e,c⟩:=x; exact ⟨ob,es,ep,t,k _ _ (.inl rfl) e,c⟩
  | ins C dx fs =>
    obtain ⟨d,z,ne,e,mA,⟨od,es,ep,e2,c⟩,r⟩:=x
    exact ⟨ho _ d,z,ne,k _ _ (.inl rfl) e,mA,⟨od,es,ep,k _ _ (.inr d) e2,c⟩,r⟩
  | own y => obtain ⟨ob,e⟩:=x; exact ⟨ob,k _ _ (.inl rfl) e⟩
  | xd fs => obtain ⟨mA,⟨od,es,ep,e,c⟩,r⟩:=x; exact ⟨mA,⟨od,es,ep,k _ _ (.inl rfl) e,c⟩,r⟩
  | rng lo hi => obtain ⟨t,u,v,e⟩:=x; exact ⟨t,u,v,k _ _ (.inl rfl) e⟩
  | frz ob u ih => obtain ⟨e,q⟩:=x; exact ⟨k _ _ (.inl rfl) e,ih q⟩
  | tbl ps =>
    have e:h.get? a = some { cls:=.none,data:=.fields ps }:=x
    show h'.get? a = some { cls:=.none,data:=.fields ps }
    exact k a _ (.inl rfl) e
  | met f y =>
    have e:h.get? a = some (PySem.W.methodObj (.ref f) (.ref y)):=x
    show h'.get? a = some (PySem.W.methodObj (.ref f) (.ref y))
    exact k a _ (.inl rfl) e
  | ext φ => obtain ⟨p,⟨o,e⟩,st⟩:=x; exact ⟨st _ _ p fun o q => k _ _ (.inl rfl) q,⟨o,k _ _ (.inl rfl) e⟩,st⟩
theorem HOk.lt (x:HOk P w H h) (e:H a = some o):a < h.objs.size:=(x a o e).lt
theorem HOk.fresh (x:HOk P w H h) (e:h.objs.size ≤ a):H a = none:=by
  cases q:H a with
  | none => rfl
  | some u => exact absurd (Nat.lt_of_lt_of_le (x.lt q) e) (Nat.lt_irrefl _)
theorem HOk.kept (x:HOk P w H h) (k:∀ b u,h.get? b = some u → h'.get? b = some u):HOk P w H h':=fun a o e =>
  (x a o e).stay (fun b u _ q => k b u q) (fun _ q => q) fun _ _ q => q
theorem HOk.laid (x:HOk P w H h) (k:∀ b u,h.get? b = some u → h'.get? b = some u) (hp:h.objs.size ≤ a) (new:ObjOk P w (upd H a o) h' a o):HOk P w (upd H a o) h':=fun b u e => by
  have hn:=x.fresh hp
  by_cases hb:b = a
  · subst hb; rw [Zaf] at e; cases e; exact new
  · rw [Zat hb] at e
    exact (x b u e).stay (fun c v _ q => k c v q) (fun c q => by rw [Zat (Zav q hn)]; exact q) fun c xs q => by rw [Zat (Zav q hn)]; exact q
end
def Rd (H:Hp) (a:Addr) (u:HO):Prop:=H a = some u ∨ ∃ o,H a = some (.frz o u)
theorem Rd.of {H:Hp} {a:Addr} {u:HO} (h:H a = some u):Rd H a u:=.inl h
theorem Rd.ok {P:Program} {w:World} {H:Hp} {h:Heap} {a:Addr} {u:HO} (r:Rd H a u) (x:HOk P w H h):ObjOk P w H h a u:=by
  rcases r with r | ⟨o,r⟩
  · exact x a u r
  · obtain ⟨_,q⟩:=x a _ r
    exact q
def Mut:Option HO → Prop
  | some (.lst _) => True
  | some (.dK _) => True
  | some (.dT _) => True
  | some (.set _ _) => True
  | some (.ins _ _ _) => True
  | some (.ext _) => True
  | _ => False
section
variable {P:Program} {w:World} {H:Hp} {h h':Heap} {x e:Addr} {o':HO}
theorem HOk.write (ok:HOk P w H h) (mu:Mut (H x)) (he:e = x ∨ H e = some (.own x)) (k:∀ b u,b ≠ e → h.get? b = some u → h'.get? b = some u) (heo:∃ u,h'.get? e = some u)
    (new:ObjOk P w (upd H x o') h' x o'):HOk P w (upd H x o') h':=fun b u q => by
  have nown:∀ c y,H c = some (.own y) → c ≠ x:=fun c y r z => by subst z; rw [r] at mu; exact mu
  have ntup:∀ c xs,H c = some (.tup xs) → c ≠ x:=fun c xs r z => by subst z; rw [r] at mu; exact mu
  by_cases hb:b = x
  · subst hb; rw [Zaf] at q; cases q; exact new
  · rw [Zat hb] at q
    by_cases hbe:b = e
    · have q':H b = some (.own x):=by
        rcases he with z | z
        · exact absurd (hbe.trans z) hb
        · rw [hbe]; exact z
      rw [q] at q'; cases q'
      obtain ⟨v,hv⟩:=heo
      exact ⟨v,by rw [hbe]; exact hv⟩
    · refine (ok b u q).stay (fun c v hc r => k c v ?_ r) (fun c r => by rw [Zat (nown c b r)]; exact r) fun c xs r => by rw [Zat (ntup c xs r)]; exact r
      rcases hc with rfl | hc
      · exact hbe
      · rintro rfl
        rcases he with z | z
        · exact nown c b hc z
        · rw [hc] at z; cases z; exact hb rfl
end
structure Un (fs ex:List Addr) (H H':Hp) (h h':Heap):Prop where
  keep:∀ b o,h.get? b = some o → H b = none → b ∉ fs → b ∉ ex → h'.get? b = some o
  slot:∀ b o,h.get? b = some o → H b = none → b ∈ fs → b ∉ ex → ∃ sl,h'.get? b = some { o with slots:=sl }
  free:∀ b o,h.get? b = some o → H b = none → b ∉ ex → H' b = none
  there:∀ b o,h.get? b = some o → b ∉ ex → ∃ o',h'.get? b = some o'
  tups:∀ b xs,H b = some (.tup xs) → H' b = some (.tup xs)
  frzs:∀ b o u,H b = some (.frz o u) → H' b = some (.frz o u)
  tbls:∀ b ps,H b = some (.tbl ps) → ∃ more,H' b = some (.tbl (ps ++ more))
section
variable {fs fs' ex ex':List Addr} {H H1 H2:Hp} {h h1 h2 h':Heap} {a x e:Addr} {o:HO}
theorem Un.any (u:Un fs ex H H1 h h1) {b:Addr} {ob:Obj} (q:h.get? b = some ob) (n:H b = none) (hx:b ∉ ex):∃ sl,h1.get? b = some { ob with slots:=sl }:=by
  by_cases hb:b ∈ fs
  · exact u.slot b ob q n hb hx
  · exact ⟨ob.slots,u.keep b ob q n hb hx⟩
theorem Un.trans (a:Un fs ex H H1 h h1) (b:Un fs ex H1 H2 h1 h2):Un fs ex H H2 h h2 where
  keep:=fun c ob q n hc hx => b.keep c ob (a.keep c ob q n hc hx) (a.free c ob q n hx) hc hx
  slot:=fun c ob q n hc hx => by
    obtain ⟨sl,e1⟩:=a.slot c ob q n hc hx
    obtain ⟨sl',e2⟩:=b.slot c _ e1 (a.free c ob q n hx) hc hx
    exact ⟨sl',e2⟩
  free:=fun c ob q n hx => by
    obtain ⟨o',e1⟩:=a.there c ob q hx
    exact b.free c o' e1 (a.free c ob q n hx) hx
  there:=fun c ob q hx => by
    obtain ⟨o',e1⟩:=a.there c ob q hx
    exact b.there c o' e1 hx
  tups:=fun c xs q => b.tups c xs (a.tups c xs q)
  frzs:=fun c ob xs q => b.frzs c ob xs (a.frzs c ob xs q)
  tbls:=fun c ps q => by
    obtain ⟨m1,e1⟩:=a.tbls c ps q
    obtain ⟨m2,e2⟩:=b.tbls c _ e1
    exact ⟨m1 ++ m2,by rw [e2,Array.append_assoc]⟩
theorem Un.kept (k:∀ b u,h.get? b = some u → h'.get? b = some u):Un fs ex H H h h' :=
  ⟨fun b ob q _ _ _ => k b ob q,fun b ob q _ _ _ => ⟨ob.slots,k b ob q⟩,fun _ _ _ n _ => n,fun b ob q _ => ⟨ob,k b ob q⟩,fun _ _ q => q,fun _ _ _ q => q,fun _ ps q => ⟨#[],by rw [q]; simp⟩⟩
theorem Un.refl:Un fs ex H H h h:=Un.kept fun _ _ q => q
theorem Un.laid (k:∀ b u,h.get? b = some u → h'.get? b = some u) (hp:h.objs.size ≤ a) (hn:H a = none):Un fs ex H (upd H a o) h h' where
  keep:=fun b u q _ _ _ => k b u q
  slot:=fun b u q _ _ _ => ⟨u.slots,k b u q⟩
  free:=fun b u q n _ => by rw [Zat (Nat.ne_of_lt (Nat.lt_of_lt_of_le (Heap.lt_size q) hp))]; exact n
  there:=fun b u q _ => ⟨u,k b u q⟩
  tups:=fun b xs q => by rw [Zat (Zav q hn)]; exact q
  frzs:=fun b u xs q => by rw [Zat (Zav q hn)]; exact q
  tbls:=fun b ps q => ⟨#[],by rw [Zat (Zav q hn),q]; simp⟩
theorem Un.write (mu:Mut (H x)) (he:e = x ∨ H e = some (.own x)) (k:∀ b u,b ≠ e → h.get? b = some u → h'.get? b = some u) (heo:∃ u,h'.get? e = some u):Un fs ex H (upd H x o) h h':=by
  have hx:∀ b,H b = none → b ≠ x:=fun b n z => by subst z; rw [n] at mu; exact mu
  have hb:∀ b,H b = none → b ≠ e:=fun b n z => by
    subst z
    rcases he with r | r
    · exact hx b n r
    · rw [n] at r; cases r
  have hm:∀ b u,H b = some u → ¬ Mut (some u) → b ≠ x:=fun b u q nm z => by subst z; rw [q] at mu; exact nm mu
  refine ⟨fun b u q n _ _ => k b u (hb b n) q,fun b u q n _ _ => ⟨u.slots,k b u (hb b n) q⟩,fun b u q n _ => by rw [Zat (hx b n)]; exact n,fun b u q _ => ?_,
    fun b xs q => by rw [Zat (hm b _ q fun z => z)]; exact q,fun b u xs q => by rw [Zat (hm b _ q fun z => z)]; exact q,fun b ps q => ⟨#[],by rw [Zat (hm b _ q fun z => z),q]; simp⟩⟩
  by_cases hbe:b = e
  · subst hbe; exact heo
  · exact ⟨u,k b u hbe q⟩
theorem Un.mono (u:Un fs ex H H1 h h1) (hs:∀ b ∈ fs,b ∈ fs') (hx:∀ b ∈ ex,b ∈ ex'):Un fs' ex' H H1 h h1 :=
  ⟨fun b ob q n hb he => u.keep b ob q n (fun z => hb (hs b z)) fun z => he (hx b z),fun _ _ q n _ he => u.any q n fun z => he (hx _ z),fun b ob q n he => u.free b ob q n fun z => he (hx b z),fun b ob q he => u.there b ob q fun z => he (hx b z),u.tups,u.frzs,u.tbls⟩
end
def trk (h:Heap) (H:Hp):List Addr:=(List.range h.objs.size).filter fun a => (H a).isSome
def Zi6 (h:Heap) (H:Hp):Heap:=PySem.W.hideAll h (trk h H)
theorem ZhI (h:Heap) (H:Hp):(Zi6 h H).objs.size = h.objs.size:=PySem.W.hideAll_size _ _
theorem Zi7 {h:Heap} {H:Hp} {b:Addr} {o:Obj} (e:h.get? b = some o) (n:H b = none):(Zi6 h H).get? b = some o :=
  PySem.W.hideAll_get _ e fun hm => by
    have q:(H b).isSome = true:=(List.mem_filter.mp hm).2
    rw [n] at q; simp at q
theorem Zki {h:Heap} {H:Hp} {b:Addr} {o:Obj} (e:(Zi6 h H).get? b = some o):h.get? b = some o ∧ H b = none:=by
  have e':h.get? b = some o:=PySem.W.of_hideAll (trk h H) e
  refine ⟨e',?_⟩
  cases q:H b with
  | none => rfl
  | some x =>
    have hm:b ∈ trk h H:=List.mem_filter.mpr ⟨List.mem_range.mpr (Heap.lt_size e'),by simp [q]⟩
    have z:(Zi6 h H).get? b = none:=PySem.W.hideAll_none (trk h H) hm
    rw [z] at e; cases e
def Zkj (g h:Heap) (L:Addr):List (Addr × Obj):=(List.range h.objs.size).filterMap fun a => if a = L ∨ (g.get? a).isSome = true then none else (h.get? a).map fun o => (a,o)
def Zha (g h:Heap) (L d:Addr):List (Addr × Obj):=(Zkj g h L).filter fun p => decide (p.1 ≠ d)
end L2
namespace L2
open PySem PySem.Spec PyProof.Rows
structure Mod (K:PySem.W.Frag) (mg:Str → Option Value) (base:Heap):Prop where
  kin:K.In base
  glob:base.Ns mainGlobals mg
  blt:∃ mb,base.Ns builtinsNs mb ∧ ∀ x:Str,x ≠ "__name__" → mb x = bootBuiltins x
  nolimit:base.NoLimit
structure Cx where
  prog:Program
  w:World
  K:PySem.W.Frag
  mg:Str → Option Value
  base:Heap
  A:Around
  N:List Str
  s₀:Shared
  H₀:Hp
  env:Env
  outer:List Env
  stack:List Env
  ex:List Addr
  fn:Str → Bool
  calm:Bool
  pn:List (Addr × Obj)
  xe:Value → Shared → Prop
def frs (l:List Env):List Addr:=l.filterMap (·.frame)
abbrev Cx.fs (X:Cx):List Addr:=frs X.outer
def Vis (sc:Scope) (x:Str):Prop:=sc.names.lookup x = some .local ∨ sc.names.lookup x = some .cell ∨ sc.names.lookup x = some .free
def Loc (sc:Scope) (x:Str):Prop:=sc.names.lookup x = some .local ∨ sc.names.lookup x = some .cell
def Zmx (env:Env) (h:Heap) (m:Str → Option Value) (x:Str) (u:Value):Prop :=
  (env.kindOf x = some .local ∧ m x = some u) ∨ ((env.kindOf x = some .cell ∨ env.kindOf x = some .free) ∧ ∃ c,env.cells.lookup x = some c ∧ h.IsCell c (some u))
structure Cx.Ok (X:Cx):Prop where
  mod:Mod X.K X.mg X.base
  kind:X.env.scope.kind = .function
  glob:X.env.globals = mainGlobals
  blt:X.env.builtins = builtinsNs
  above:X.s₀.heap.objs.size ≤ X.env.locals
  inj:∀ x y c,X.env.cells.lookup x = some c → X.env.cells.lookup y = some c → x = y
  has:∀ x,(X.env.kindOf x = some .cell ∨ X.env.kindOf x = some .free) → ∃ c,X.env.cells.lookup x = some c
  cab:∀ x c,X.fn x = true → X.env.cells.lookup x = some c → X.s₀.heap.objs.size ≤ c
  hd:X.calm = true → X.A.handled = none
  frames:X.A.frames = some X.stack
  stk:X.stack = X.outer ∨ (X.stack = X.env :: X.outer ∧ X.env.frame = some X.env.locals)
  exf:∀ b ∈ X.ex,b ≠ X.env.locals ∧ ∀ x c,X.env.cells.lookup x = some c → c ≠ b
  bs:∀ b o,X.base.get? b = some o → X.s₀.heap.get? b = some o ∧ X.H₀ b = none
  bsz:X.base.objs.size ≤ X.s₀.heap.objs.size
  noex:∀ b o,X.base.get? b = some o → b ∉ X.ex
  exfs:∀ b ∈ X.ex,b ∉ X.fs
  funs:X.s₀.heap.FunFrames X.base X.outer
  frf:∀ b ∈ X.fs,X.H₀ b = none
structure Inv (X:Cx) (pins:List (Addr × Obj)) (σ:List (Option V)) (H:Hp) (s:Shared):Prop where
  ok:X.Ok
  os:s.os = X.s₀.os
  bare:AllBare s.gens
  base:Un X.fs X.ex X.H₀ H X.s₀.heap s.heap
  loc:∃ m,s.heap.Ns X.env.locals m ∧ ∀ (i:Nat) (x:Str) (v:V),X.N[i]? = some x → σ[i]? = some (some v) → Vis X.env.scope x → ∃ u,RelV v u ∧ Zmx X.env s.heap m x u
  cell:∀ x c,X.env.cells.lookup x = some c → ∃ v,s.heap.IsCell c v
  free:H X.env.locals = none
  freeC:∀ x c,X.env.cells.lookup x = some c → H c = none
  pin:∀ p ∈ X.pn ++ pins,s.heap.get? p.1 = some p.2 ∧ H p.1 = none ∧ p.1 ≠ X.env.locals ∧ p.1 ∉ X.fs ∧ ∀ v,p.2.data ≠ .cell v
  hok:HOk X.prog X.w H s.heap
  len:σ.length = X.N.length
section
variable {X:Cx} {pins:List (Addr × Obj)} {σ:List (Option V)} {H H':Hp} {s:Shared} {h':Heap}
theorem Cx.Ok.nofr (ok:X.Ok) {b:Addr} {o:Obj} (e:X.base.get? b = some o):b ∉ X.fs:=fun hb => by
  have:=(ok.funs.mem hb).1
  rw [e] at this; cases this
theorem Inv.bs (I:Inv X pins σ H s):∀ b o,X.base.get? b = some o → s.heap.get? b = some o ∧ H b = none:=fun b o e =>
  ⟨I.base.keep b o (I.ok.bs b o e).1 (I.ok.bs b o e).2 (I.ok.nofr e) (I.ok.noex b o e),I.base.free b o (I.ok.bs b o e).1 (I.ok.bs b o e).2 (I.ok.noex b o e)⟩
theorem Inv.bk (I:Inv X pins σ H s):∀ b o,X.base.get? b = some o → s.heap.get? b = some o:=fun b o e => (I.bs b o e).1
theorem Inv.mod (I:Inv X pins σ H s):Mod X.K X.mg X.base:=I.ok.mod
theorem Inv.kIn (I:Inv X pins σ H s):X.K.In s.heap:=I.ok.mod.kin.keeps I.bk
theorem Inv.nolimit (I:Inv X pins σ H s):s.heap.NoLimit:=I.ok.mod.nolimit.keeps I.bk
theorem Inv.fr (I:Inv X pins σ H s):∃ m,Fr X.base X.env.locals s.heap m :=
  let ⟨m,hn,_⟩:=I.loc
  ⟨m,hn,I.bk,Nat.le_trans I.ok.bsz I.ok.above⟩
theorem Inv.lt (I:Inv X pins σ H s):X.env.locals < s.heap.objs.size:=let ⟨_,hn,_⟩:=I.loc; hn.lt
theorem Inv.sz (I:Inv X pins σ H s):X.s₀.heap.objs.size ≤ s.heap.objs.size:=Nat.le_trans I.ok.above (Nat.le_of_lt I.lt)
theorem Inv.nofs (I:Inv X pins σ H s) {a:Addr} (h:s.heap.objs.size ≤ a):a ∉ X.fs:=fun hb => by
  obtain ⟨_,o,ho,_⟩:=I.ok.funs.mem hb
  exact absurd (Nat.lt_of_lt_of_le (Heap.lt_size ho) (Nat.le_trans I.sz h)) (Nat.lt_irrefl _)
theorem Inv.cne (I:Inv X pins σ H s):∀ x c,X.env.cells.lookup x = some c → c ≠ X.env.locals:=fun x c e z => by
  obtain ⟨v,o,ho,hd⟩:=I.cell x c e
  obtain ⟨m,⟨o',es,ep,ho',hd',_⟩,_⟩:=I.loc
  rw [z,ho'] at ho; cases ho; rw [hd'] at hd; cases hd
theorem Inv.funs (I:Inv X pins σ H s):s.heap.FunFrames X.base X.outer:=by
  have all:∀ (l:List Env),(∀ b ∈ frs l,b ∈ X.fs) → X.s₀.heap.FunFrames X.base l → s.heap.FunFrames X.base l:=by
    intro l
    induction l with
    | nil => intro _ _; trivial
    | cons env r ih =>
      intro hs hl
      obtain ⟨hk,⟨L,o,hf,hn,ho,hd⟩,hr⟩:=hl
      have hL:L ∈ X.fs:=hs L (by unfold frs; rw [List.filterMap_cons,hf]; exact List.mem_cons_self)
      obtain ⟨sl,e⟩:=I.base.slot L o ho (I.ok.frf L hL) hL fun z => I.ok.exfs L z hL
      exact ⟨hk,⟨L,_,hf,hn,e,hd⟩,ih (fun b hb => hs b (by unfold frs; rw [List.filterMap_cons,hf]; exact List.mem_cons_of_mem _ hb)) hr⟩
  exact all X.outer (fun _ hb => hb) I.ok.funs
theorem Inv.stack (I:Inv X pins σ H s):s.heap.FunFrames X.base X.stack:=by
  rcases I.ok.stk with e | ⟨e,hf⟩
  · rw [e]; exact I.funs
  · rw [e]
    obtain ⟨m,hn,_⟩:=I.loc
    refine .cons (by rw [I.ok.kind]; decide) hf hn ?_ I.funs
    exact Heap.get?_none_of_le (Nat.le_trans I.ok.bsz I.ok.above)
theorem Inv.stkSub (I:Inv X pins σ H s):∀ b ∈ frs X.stack,b ∈ X.env.locals :: X.fs:=fun b hb => by
  rcases I.ok.stk with e | ⟨e,hf⟩
  · rw [e] at hb; exact List.mem_cons_of_mem _ hb
  · rw [e] at hb
    unfold frs at hb
    rw [List.filterMap_cons,hf] at hb
    exact hb
theorem Inv.stkFree (I:Inv X pins σ H s):∀ b ∈ frs X.stack,H b = none:=fun b hb => by
  rcases List.mem_cons.mp (I.stkSub b hb) with e | hb
  · rw [e]; exact I.free
  · obtain ⟨_,o,ho,_⟩:=I.ok.funs.mem hb
    exact I.base.free b o ho (I.ok.frf b hb) fun z => I.ok.exfs b z hb
theorem Inv.step {g':Array GenState} {t':Nat} {d':Drawn} {ch:List Addr} (I:Inv X pins σ H s)
    (hch:∀ b ∈ ch,(b ∈ X.ex ∨ X.s₀.heap.objs.size ≤ b) ∧ b ≠ X.env.locals ∧ (∀ x c,X.env.cells.lookup x = some c → c ≠ b) ∧ ∀ p ∈ X.pn ++ pins,p.1 ≠ b)
    (keep:∀ b o,b ≠ X.env.locals → b ∉ X.fs → b ∉ ch → s.heap.get? b = some o → H b = none → h'.get? b = some o)
    (slot:∀ b o,b ≠ X.env.locals → b ∈ X.fs → b ∉ ch → s.heap.get? b = some o → H b = none → ∃ sl,h'.get? b = some { o with slots:=sl }) (free:∀ b o,b ∉ ch → s.heap.get? b = some o → H b = none → H' b = none)
    (there:∀ b o,b ∉ ch → s.heap.get? b = some o → ∃ o',h'.get? b = some o')
    (tups:∀ b xs,H b = some (.tup xs) → H' b = some (.tup xs)) (frzs:∀ b o u,H b = some (.frz o u) → H' b = some (.frz o u)) (tbls:∀ b ps,H b = some (.tbl ps) → ∃ more,H' b = some (.tbl (ps ++ more)))
    (ns:∀ m,s.heap.Ns X.env.locals m → h'.Ns X.env.locals m) (hok:HOk X.prog X.w H' h') (hg:AllBare g') :
    Inv X pins σ H' { s with heap:=h',gens:=g',drawn:=d',toks:=t' }:=by
  have neL:∀ b o,X.s₀.heap.get? b = some o → b ≠ X.env.locals:=fun b o e => Nat.ne_of_lt (Nat.lt_of_lt_of_le (Heap.lt_size e) I.ok.above)
  have neC:∀ b o,X.s₀.heap.get? b = some o → b ∉ X.ex → b ∉ ch:=fun b o e hx hb => by
    rcases (hch b hb).1 with z | z
    · exact hx z
    · exact absurd (Nat.lt_of_lt_of_le (Heap.lt_size e) z) (Nat.lt_irrefl _)
  have cellK:∀ x c,X.env.cells.lookup x = some c → ∀ v,s.heap.IsCell c v → h'.IsCell c v:=fun x c e v ⟨o,ho,hd⟩ => by
    have nch:c ∉ ch:=fun z => (hch c z).2.2.1 x c e rfl
    by_cases hc:c ∈ X.fs
    · obtain ⟨sl,q⟩:=slot c o (I.cne x c e) hc nch ho (I.freeC x c e)
      exact ⟨_,q,hd⟩
    · exact ⟨o,keep c o (I.cne x c e) hc nch ho (I.freeC x c e),hd⟩
  refine ⟨I.ok,I.os,hg,⟨fun b o e n hb hx => ?_,fun b o e n hb hx => ?_,fun b o e n hx => ?_,fun b o e hx => ?_,fun b xs e => tups b xs (I.base.tups b xs e),fun b o xs e => frzs b o xs (I.base.frzs b o xs e),fun b ps e => ?_⟩,?_,fun x c e => ?_,?_,fun x c e => ?_,fun p hp => ?_,hok,I.len⟩
  · exact keep b o (neL b o e) hb (neC b o e hx) (I.base.keep b o e n hb hx) (I.base.free b o e n hx)
  · obtain ⟨sl,e1⟩:=I.base.slot b o e n hb hx
    obtain ⟨sl',e2⟩:=slot b _ (neL b o e) hb (neC b o e hx) e1 (I.base.free b o e n hx)
    exact ⟨sl',e2⟩
  · obtain ⟨o',e1⟩:=I.base.there b o e hx
    exact free b o' (neC b o e hx) e1 (I.base.free b o e n hx)
  · obtain ⟨o',e1⟩:=I.base.there b o e hx
    exact there b o' (neC b o e hx) e1
  · obtain ⟨m1,e1⟩:=I.base.tbls b ps e
    obtain ⟨m2,e2⟩:=tbls b _ e1
    exact ⟨m1 ++ m2,by rw [e2,Array.append_assoc]⟩
  · obtain ⟨m,hn,hl⟩:=I.loc
    refine ⟨m,ns m hn,fun i x v e1 e2 e3 => ?_⟩
    obtain ⟨u,r,l⟩:=hl i x v e1 e2 e3
    refine ⟨u,r,?_⟩
    rcases l with l | ⟨k,c,e,z⟩
    · exact .inl l
    · exact .inr ⟨k,c,e,cellK x c e _ z⟩
  · obtain ⟨v,z⟩:=I.cell x c e
    exact ⟨v,cellK x c e v z⟩
  · obtain ⟨m,⟨o,_,_,ho,_⟩,_⟩:=I.loc
    exact free _ o (fun z => (hch _ z).2.1 rfl) ho I.free
  · obtain ⟨v,o,ho,hd⟩:=I.cell x c e
    exact free c o (fun z => (hch c z).2.2.1 x c e rfl) ho (I.freeC x c e)
  · obtain ⟨e,n,ne,nf,d⟩:=I.pin p hp
    have nch:p.1 ∉ ch:=fun z => (hch p.1 z).2.2.2 p hp rfl
    exact ⟨keep p.1 p.2 ne nf nch e n,free p.1 p.2 nch e n,ne,nf,d⟩
theorem Inv.un {t':Nat} (I:Inv X pins σ H s) (u:Un X.fs [] H H' s.heap h') (hok:HOk X.prog X.w H' h'):Inv X pins σ H' { s with heap:=h',toks:=t' }:=by
  obtain ⟨m,⟨o,es,ep,ho,r⟩,_⟩:=id I.loc
  obtain ⟨sl,hL⟩:=u.any ho I.free (by simp)
  exact I.step (g':=s.gens) (d':=s.drawn) (ch:=[]) (fun _ z => nomatch z) (fun b o _ hb _ e n => u.keep b o e n hb (by simp)) (fun b o _ hb _ e n => u.slot b o e n hb (by simp)) (fun b o _ e n => u.free b o e n (by simp)) (fun b o _ e => u.there b o e (by simp)) u.tups u.frzs u.tbls (fun m' hm => by
    obtain ⟨o',es',ep',ho',r'⟩:=hm
    rw [ho] at ho'; cases ho'
    exact ⟨_,es',ep',hL,r'⟩) hok I.bare
theorem Inv.call {g':Array GenState} {t':Nat} {d':Drawn} {ch:List Addr} (I:Inv X pins σ H s) (u:Un (frs X.stack) ch H H' s.heap h') (hok:HOk X.prog X.w H' h') (hg:AllBare g')
    (hch:∀ b ∈ ch,(b ∈ X.ex ∨ X.s₀.heap.objs.size ≤ b) ∧ b ≠ X.env.locals ∧ (∀ x c,X.env.cells.lookup x = some c → c ≠ b) ∧ ∀ p ∈ X.pn ++ pins,p.1 ≠ b) :
    Inv X pins σ H' { s with heap:=h',gens:=g',drawn:=d',toks:=t' }:=by
  obtain ⟨m,⟨o,es,ep,ho,r⟩,_⟩:=id I.loc
  obtain ⟨sl,hL⟩:=u.any ho I.free fun z => (hch _ z).2.1 rfl
  exact I.step (ch:=ch) hch (fun b o hL hb hc e n => u.keep b o e n (fun z => (List.mem_cons.mp (I.stkSub b z)).elim hL hb) hc) (fun b o _ _ hc e n => u.any e n hc) (fun b o hc e n => u.free b o e n hc) (fun b o hc e => u.there b o e hc) u.tups u.frzs u.tbls (fun m' hm => by
    obtain ⟨o',es',ep',ho',r'⟩:=hm
    rw [ho] at ho'; cases ho'
    exact ⟨_,es',ep',hL,r'⟩) hok hg
theorem Inv.turned {t':Nat} {it:Addr} (I:Inv X pins σ H s) (k:∀ b o,b ≠ it → s.heap.get? b = some o → h'.get? b = some o) (hn:H it = none) (hL:it ≠ X.env.locals)
    (h1:it ∈ X.ex ∨ X.s₀.heap.objs.size ≤ it) (h2:∀ x c,X.env.cells.lookup x = some c → c ≠ it) (h3:∀ p ∈ X.pn ++ pins,p.1 ≠ it):Inv X pins σ H { s with heap:=h',toks:=t' }:=by
  have nit:∀ b u,H b = some u → b ≠ it:=fun b u e z => by rw [z,hn] at e; cases e
  refine I.step (g':=s.gens) (d':=s.drawn) (ch:=[it]) (fun b hb => ?_) (fun b o _ _ hc e _ => k b o (fun z => hc (by simp [z])) e) (fun b o _ _ hc e _ => ⟨o.slots,k b o (fun z => hc (by simp [z])) e⟩) (fun _ _ _ _ n => n)
    (fun b o hc e => ⟨o,k b o (fun z => hc (by simp [z])) e⟩) (fun _ _ e => e) (fun _ _ _ e => e) (fun b ps e => ⟨#[],by rw [e]; simp⟩) (fun m hm => ?_) (fun b u e => ?_) I.bare
  · have e:b = it:=by simpa using hb
    subst e
    exact ⟨h1,hL,h2,h3⟩
  · obtain ⟨o,es,ep,ho,r⟩:=hm
    exact ⟨o,es,ep,k _ o (Ne.symm hL) ho,r⟩
  · refine (I.hok b u e).stay (fun c v hc q => k c v ?_ q) (fun _ q => q) fun _ _ q => q
    rcases hc with z | z
    · rw [z]; exact nit b u e
    · exact nit c _ z
theorem Inv.tok (I:Inv X pins σ H s) (t:Nat):Inv X pins σ H { s with toks:=t }:=I.un (h':=s.heap) (t':=t) Un.refl I.hok
theorem Inv.kept {t':Nat} (I:Inv X pins σ H s) (k:∀ b u,s.heap.get? b = some u → h'.get? b = some u):Inv X pins σ H { s with heap:=h',toks:=t' }:=I.un (Un.kept k) (I.hok.kept k)
theorem Inv.laid {a:Addr} {o:HO} {t':Nat} (I:Inv X pins σ H s) (k:∀ b u,s.heap.get? b = some u → h'.get? b = some u) (hp:s.heap.objs.size ≤ a) (new:ObjOk X.prog X.w (upd H a o) h' a o) :
    Inv X pins σ (upd H a o) { s with heap:=h',toks:=t' }:=I.un (Un.laid k hp (I.hok.fresh hp)) (I.hok.laid k hp new)
theorem Inv.write {x e:Addr} {o:HO} {t':Nat} (I:Inv X pins σ H s) (mu:Mut (H x)) (he:e = x ∨ H e = some (.own x)) (k:∀ b u,b ≠ e → s.heap.get? b = some u → h'.get? b = some u) (heo:∃ u,h'.get? e = some u)
    (new:ObjOk X.prog X.w (upd H x o) h' x o):Inv X pins σ (upd H x o) { s with heap:=h',toks:=t' }:=I.un (Un.write mu he k heo) (I.hok.write mu he k heo new)
theorem Inv.weak {σ':List (Option V)} (I:Inv X pins σ H s) (hl:σ'.length = σ.length) (w:∀ (i:Nat) v,σ'[i]? = some (some v) → σ[i]? = some (some v)):Inv X pins σ' H s :=
  ⟨I.ok,I.os,I.bare,I.base,let ⟨m,hn,hl'⟩:=I.loc; ⟨m,hn,fun i x v e1 e2 e3 => hl' i x v e1 (w i v e2) e3⟩,I.cell,I.free,I.freeC,I.pin,I.hok,hl.trans I.len⟩
theorem Inv.pins_of {pins':List (Addr × Obj)} (I:Inv X pins σ H s) (h:∀ p ∈ pins',s.heap.get? p.1 = some p.2 ∧ H p.1 = none ∧ p.1 ≠ X.env.locals ∧ p.1 ∉ X.fs ∧ ∀ v,p.2.data ≠ .cell v):Inv X pins' σ H s :=
  ⟨I.ok,I.os,I.bare,I.base,I.loc,I.cell,I.free,I.freeC,fun p hp => (List.mem_append.mp hp).elim (fun z => I.pin p (List.mem_append_left _ z)) (h p),I.hok,I.len⟩
theorem Zgw {N:List Str} (hN:N.Nodup) {i j:Nat} {x:Str} (a:N[i]? = some x) (b:N[j]? = some x):i = j:=by
  obtain ⟨h1,e1⟩:=List.getElem?_eq_some_iff.mp a
  obtain ⟨h2,e2⟩:=List.getElem?_eq_some_iff.mp b
  exact (List.getElem_inj hN).mp (e1.trans e2.symm)
theorem Zfi {M:Model} {A:Around} {E:Value → Shared → Prop} {i:Nat} {x:Str} {v:V} {u:Value} {Q:Unit → Shared → Prop} (I:Inv X pins σ H s) (hN:X.N.Nodup) (hi:X.N[i]? = some x) (hx:Loc X.env.scope x) (r:RelV v u)
    (h:∀ s',Inv X pins (σ.set i (some v)) H s' → (∃ a,Heap.SameBut a s.heap s'.heap ∧ (a = X.env.locals ∨ X.env.cells.lookup x = some a)) → Q () s') (hf:X.fn x = true ∨ X.env.scope.names.lookup x = some .local:=by first | exact .inl rfl | exact .inr rfl | assumption):wpAny M A (storeName X.env x u) Q E s:=by
  obtain ⟨m,hn,hl⟩:=id I.loc
  have hcls:(X.env.scope.kind == .class || (X.env.scope.kind == .module && X.env.locals != X.env.globals)) = false:=by rw [I.ok.kind]; rfl
  have hiσ:i < σ.length:=by rw [I.len]; exact (List.getElem?_eq_some_iff.mp hi).1
  have cne:=I.cne
  have tracked:∀ {a:Addr} {h':Heap},(∃ o,s.heap.get? a = some o ∧ H a = none) → Heap.SameBut a s.heap h' → HOk X.prog X.w H h':=fun {a h'} ha hs b ob e => by
    obtain ⟨_,_,hfree⟩:=ha
    refine (I.hok b ob e).stay (fun c w' hc q => (hs.2 c ?_).trans q) (fun _ q => q) fun _ _ q => q
    rintro rfl
    rcases hc with rfl | hc
    · rw [hfree] at e; cases e
    · rw [hfree] at hc; cases hc
  rcases hx with hk | hk
  · refine wpAny_storeName_local hk hn (fun h' hn' hs => ?_) hcls
    obtain ⟨oL,_,_,hoL,_⟩:=id hn
    refine h _ ⟨I.ok,I.os,I.bare,⟨fun b o e n hb hx => ?_,fun b o e n hb hx => ?_,I.base.free,fun b o e hx => ?_,I.base.tups,I.base.frzs,I.base.tbls⟩,⟨_,hn',fun j y v' e1 e2 e3 => ?_⟩,fun y c e => ?_,I.free,I.freeC,fun p hp => ?_,tracked ⟨oL,hoL,I.free⟩ hs,by simpa using I.len⟩ ⟨_,hs,.inl rfl⟩
    · exact (hs.2 b (Nat.ne_of_lt (Nat.lt_of_lt_of_le (Heap.lt_size e) I.ok.above))).trans (I.base.keep b o e n hb hx)
    · obtain ⟨sl,e1⟩:=I.base.slot b o e n hb hx
      exact ⟨sl,(hs.2 b (Nat.ne_of_lt (Nat.lt_of_lt_of_le (Heap.lt_size e) I.ok.above))).trans e1⟩
    · obtain ⟨o',e1⟩:=I.base.there b o e hx
      exact ⟨o',(hs.2 b (Nat.ne_of_lt (Nat.lt_of_lt_of_le (Heap.lt_size e) I.ok.above))).trans e1⟩
    · by_cases hj:j = i
      · subst hj
        rw [hi] at e1; cases e1
        rw [List.getElem?_set_self hiσ] at e2
        cases e2
        exact ⟨u,r,.inl ⟨hk,by simp⟩⟩
      · rw [List.getElem?_set_ne (Ne.symm hj)] at e2
        obtain ⟨u',r',q⟩:=hl j y v' e1 e2 e3
        refine ⟨u',r',?_⟩
        rcases q with ⟨k,e⟩ | ⟨k,c,e,z⟩
        · refine .inl ⟨k,?_⟩
          have:y ≠ x:=fun e => hj (Zgw hN e1 (e ▸ hi))
          simp [this,e]
        · exact .inr ⟨k,c,e,z.sameBut hs (cne y c e)⟩
    · obtain ⟨w',z⟩:=I.cell y c e
      exact ⟨w',z.sameBut hs (cne y c e)⟩
    · obtain ⟨e,n,ne,nf,d⟩:=I.pin p hp
      exact ⟨(hs.2 p.1 ne).trans e,n,ne,nf,d⟩
  · have hfn:X.fn x = true:=by
      rcases hf with z | z
      · exact z
      · rw [z] at hk; cases hk
    obtain ⟨c,hc⟩:=I.ok.has x (.inl hk)
    obtain ⟨w',z⟩:=I.cell x c hc
    refine wpAny_storeName_cell I.ok.kind hk hc z (fun h' hc' hs => ?_)
    obtain ⟨oc,hoc,hocd⟩:=id z
    refine h { s with heap:=h' } ⟨I.ok,I.os,I.bare,⟨fun b o e n hb hx => ?_,fun b o e n hb hx => ?_,I.base.free,fun b o e hx => ?_,I.base.tups,I.base.frzs,I.base.tbls⟩,⟨m,hn.sameBut hs (Ne.symm (cne x c hc)),fun j y v' e1 e2 e3 => ?_⟩,fun y c' e => ?_,I.free,I.freeC,fun p hp => ?_,tracked ⟨oc,hoc,I.freeC x c hc⟩ hs,by simpa using I.len⟩ ⟨c,hs,.inr hc⟩
    · exact (hs.2 b (Nat.ne_of_lt (Nat.lt_of_lt_of_le (Heap.lt_size e) (I.ok.cab x c hfn hc)))).trans (I.base.keep b o e n hb hx)
    · obtain ⟨sl,e1⟩:=I.base.slot b o e n hb hx
      exact ⟨sl,(hs.2 b (Nat.ne_of_lt (Nat.lt_of_lt_of_le (Heap.lt_size e) (I.ok.cab x c hfn hc)))).trans e1⟩
    · obtain ⟨o',e1⟩:=I.base.there b o e hx
      exact ⟨o',(hs.2 b (Nat.ne_of_lt (Nat.lt_of_lt_of_le (Heap.lt_size e) (I.ok.cab x c hfn hc)))).trans e1⟩
    · by_cases hj:j = i
      · subst hj
        rw [hi] at e1; cases e1
        rw [List.getElem?_set_self hiσ] at e2
        cases e2
        exact ⟨u,r,.inr ⟨.inl hk,c,hc,hc'⟩⟩
      · rw [List.getElem?_set_ne (Ne.symm hj)] at e2
        obtain ⟨u',r',q⟩:=hl j y v' e1 e2 e3
        refine ⟨u',r',?_⟩
        rcases q with q | ⟨k,c',e,z'⟩
        · exact .inl q
        · refine .inr ⟨k,c',e,z'.sameBut hs ?_⟩
          rintro rfl
          exact hj (Zgw hN e1 (I.ok.inj _ _ _ e hc ▸ hi))
    · by_cases hcc:c' = c
      · subst hcc; exact ⟨_,hc'⟩
      · obtain ⟨w2,z2⟩:=I.cell y c' e
        exact ⟨w2,z2.sameBut hs hcc⟩
    · obtain ⟨e,n,ne,nf,d⟩:=I.pin p hp
      refine ⟨(hs.2 p.1 ?_).trans e,n,ne,nf,d⟩
      intro q
      rw [q,hoc] at e
      have q':oc = p.2:=Option.some.inj e
      exact d w' (by rw [← q']; exact hocd)
theorem Zcu {M:Model} {A:Around} {E:Value → Shared → Prop} {i:Nat} {x:Str} {v:V} {u:Value} {Q:Unit → Shared → Prop} (I:Inv X pins σ H s) (hN:X.N.Nodup) (hi:X.N[i]? = some x) (hx:Loc X.env.scope x) (r:RelV v u)
    (h:∀ s',Inv X pins (σ.set i (some v)) H s' → Q () s') (hf:X.fn x = true ∨ X.env.scope.names.lookup x = some .local:=by first | exact .inl rfl | exact .inr rfl | assumption):wpAny M A (storeName X.env x u) Q E s :=
  Zfi I hN hi hx r (fun s' I' _ => h s' I') hf
theorem Inv.call' {s':Shared} {ch:List Addr} (I:Inv X pins σ H s) (ho:s'.os = s.os) (u:Un (frs X.stack) ch H H' s.heap s'.heap) (hok:HOk X.prog X.w H' s'.heap) (hg:AllBare s'.gens)
    (hch:∀ b ∈ ch,(b ∈ X.ex ∨ X.s₀.heap.objs.size ≤ b) ∧ b ≠ X.env.locals ∧ (∀ x c,X.env.cells.lookup x = some c → c ≠ b) ∧ ∀ p ∈ X.pn ++ pins,p.1 ≠ b):Inv X pins σ H' s':=by
  obtain ⟨h',g',d',t',o'⟩:=s'
  have e:o' = s.os:=ho
  subst e
  exact I.call (g':=g') (t':=t') (d':=d') u hok hg hch
end
abbrev XK:=Value → Option Addr → Hp → Prop
abbrev St:=List (Option V)
abbrev VK:=V → Hp → Prop
abbrev TE:=St → Hp → VK → Prop
abbrev TT:=St → Hp → (Bool → Hp → Prop) → Prop
abbrev TA:=St → Hp → (List V → Hp → Prop) → Prop
structure Ends where
  nx:St → Hp → Prop
  rt:VK
  bk:St → Hp → Prop:=fun _ _ => False
  ct:St → Hp → Prop:=fun _ _ => False
abbrev TS:=Ends → St → Hp → Prop
def EP (X:Cx) (pins:List (Addr × Obj)) (σ:St) (Q:VK) (u:Value) (s':Shared):Prop:=∃ v H',Inv X pins σ H' s' ∧ RelV v u ∧ Q v H'
def TP (X:Cx) (pins:List (Addr × Obj)) (σ:St) (Q:Bool → Hp → Prop) (b:Bool) (s':Shared):Prop:=∃ H',Inv X pins σ H' s' ∧ Q b H'
def AP (X:Cx) (pins:List (Addr × Obj)) (σ:St) (Q:List V → Hp → Prop) (us:List Value) (s':Shared):Prop:=∃ vs H',Inv X pins σ H' s' ∧ Vals vs us ∧ Q vs H'
def SP (X:Cx) (pins:List (Addr × Obj)) (D:Ends) (f:Flow) (s':Shared):Prop :=
  match f with
  | .next => ∃ σ' H',Inv X pins σ' H' s' ∧ D.nx σ' H'
  | .brk => ∃ σ' H',Inv X pins σ' H' s' ∧ D.bk σ' H'
  | .cont => ∃ σ' H',Inv X pins σ' H' s' ∧ D.ct σ' H'
  | .ret u => ∃ v σ' H',Inv X pins σ' H' s' ∧ RelV v u ∧ D.rt v H'
def PE (X:Cx) (e:Expr) (t:TE):Prop :=
  ∀ (pins:List (Addr × Obj)) (s:Shared) (σ:St) (H:Hp) (Q:VK),Inv X pins σ H s → t σ H Q → wpAny (model X.prog X.w) X.A (eval e X.env) (EP X pins σ Q) X.xe s
def PT (X:Cx) (e:Expr) (t:TT):Prop :=
  ∀ (pins:List (Addr × Obj)) (s:Shared) (σ:St) (H:Hp) (Q:Bool → Hp → Prop),Inv X pins σ H s → t σ H Q → wpAny (model X.prog X.w) X.A (isTrue e X.env (eval e X.env)) (TP X pins σ Q) X.xe s
def PW (X:Cx) (e:Expr) (t:TT):Prop :=
  ∀ (whole:Sem Value) (pins:List (Addr × Obj)) (s:Shared) (σ:St) (H:Hp) (Q:Bool → Hp → Prop),Inv X pins σ H s → t σ H Q → wpAny (model X.prog X.w) X.A (isTrue e X.env whole) (TP X pins σ Q) X.xe s
theorem PW.pt {X:Cx} {e:Expr} {t:TT} (h:PW X e t):PT X e t:=h _
def PA (X:Cx) (es:List Expr) (t:TA):Prop :=
  ∀ (pos:Pos) (pins:List (Addr × Obj)) (s:Shared) (σ:St) (H:Hp) (Q:List V → Hp → Prop),Inv X pins σ H s → t σ H Q → wpAny (model X.prog X.w) X.A (spliced (backTo pos (starEach es X.env))) (AP X pins σ Q) X.xe s
def PS (X:Cx) (st:Stmt) (t:TS):Prop :=
  ∀ (pins:List (Addr × Obj)) (s:Shared) (σ:St) (H:Hp) (D:Ends),Inv X pins σ H s → t D σ H → wpAny (model X.prog X.w) X.A (exec st X.env) (SP X pins D) X.xe s
def PSs (X:Cx) (st:List Stmt) (t:TS):Prop :=
  ∀ (pins:List (Addr × Obj)) (s:Shared) (σ:St) (H:Hp) (D:Ends),Inv X pins σ H s → t D σ H → wpAny (model X.prog X.w) X.A (execs st X.env) (SP X pins D) X.xe s
theorem thn {α:Type} {t:Sem α} {Q Q':α → Shared → Prop} {M:Model} {A:Around} {E:Value → Shared → Prop} {s:Shared} (h:wpAny M A t Q E s) (hQ:∀ a s,Q a s → Q' a s):wpAny M A t Q' E s:=wpAny_mono h hQ fun _ _ x => x
end L2
namespace L2
open PySem PySem.Spec PyProof.Rows
section
variable {X:Cx}
def Zmy (i:Nat):TE:=fun σ H Q => ∃ v,σ[i]? = some (some v) ∧ Q v H
def tC (v:V):TE:=fun _ H Q => Q v H
theorem Zla {i:Nat} {x:Str} {pos:Pos} (hN:X.N[i]? = some x) (hv:Vis X.env.scope x) (hd:(x == ("__debug__" : Str)) = false:=by decide) (hcd:(x == ("__classdict__" : Str)) = false:=by decide):PE X (.Name x pos) (Zmy i):=by
  intro pins s σ H Q I h
  obtain ⟨v,e,h⟩:=h
  obtain ⟨m,hn,hl⟩:=I.loc
  obtain ⟨u,r,l⟩:=hl i x v hN e hv
  have fin:EP X pins σ Q u s:=⟨v,H,I,r,h⟩
  rcases l with ⟨hk,hm⟩ | ⟨hk,c,hc,hcell⟩
  · exact wpAny_Name (wpAny_loadName_local I.ok.kind hk hn hm fin) hd
  · rcases hk with hk | hk
    · exact wpAny_Name (wpAny_loadName_cell I.ok.kind hk hc hcell fin) hd
    · exact wpAny_Name (wpAny_loadName_free I.ok.kind hk hc hcell fin hcd) hd
theorem Zac {i j pos}:PE X (.Constant (.int i) j pos) (tC (.int i)):=fun _ _ _ H _ I h => wpAny_Constant_int ⟨.int i,H,I.tok _,⟨_,rfl⟩,h⟩
theorem ZaX {b j pos}:PE X (.Constant (.bool b) j pos) (tC (.bl b)):=fun _ _ _ H _ I h => Constant_bool ⟨.bl b,H,I,rfl,h⟩
theorem ZdE {j pos}:PE X (.Constant .none j pos) (tC .non):=fun _ _ _ H _ I h => Constant_none ⟨.non,H,I,rfl,h⟩
theorem ZdF {x j pos}:PE X (.Constant (.str x) j pos) (tC (.str x)):=fun _ _ _ H _ I h => Calls.Constant_str ⟨.str x,H,I.tok _,⟨_,rfl⟩,h⟩
def Gl (X:Cx) (x:Str):Prop:=X.env.kindOf x = some .globalImplicit
theorem Zde {E:Value → Shared → Prop} {pins:List (Addr × Obj)} {s:Shared} {σ:St} {H:Hp} {x:Str} {u:Value} {pos:Pos} {Q:Value → Shared → Prop} (I:Inv X pins σ H s) (hg:Gl X x) (hm:X.mg x = some u) (h:Q u s)
    (hd:(x == ("__debug__" : Str)) = false:=by decide):wpAny (model X.prog X.w) X.A (eval (.Name x pos) X.env) Q E s :=
  Calls.Name_function_global I.ok.kind hg (Calls.loadGlobal_global (by rw [I.ok.glob]; exact I.mod.glob.keeps I.bk) hm h) hd
theorem Zep {E:Value → Shared → Prop} {pins:List (Addr × Obj)} {s:Shared} {σ:St} {H:Hp} {x:Str} {u:Value} {pos:Pos} {Q:Value → Shared → Prop} (I:Inv X pins σ H s) (hg:Gl X x) (hm:X.mg x = none) (hv:bootBuiltins x = some u) (h:Q u s)
    (hn:x ≠ "__name__" := by decide) (hd:(x == ("__debug__" : Str)) = false:=by decide):wpAny (model X.prog X.w) X.A (eval (.Name x pos) X.env) Q E s:=by
  obtain ⟨mb,h1,h2⟩:=I.mod.blt
  exact Calls.Name_function_global I.ok.kind hg (Calls.loadGlobal_builtin (by rw [I.ok.glob]; exact I.mod.glob.keeps I.bk) hm (by rw [I.ok.blt]; exact h1.keeps I.bk) ((h2 x hn).trans hv) h) hd
theorem Zbl {x:Str} {v:V} {u:Value} {pos:Pos} (hg:Gl X x) (hm:X.mg x = some u) (r:RelV v u) (hd:(x == ("__debug__" : Str)) = false:=by decide):PE X (.Name x pos) (tC v) :=
  fun _ _ _ H _ I h => Zde I hg hm ⟨v,H,I,r,h⟩ hd
theorem Zkk {x:Str} {v:V} {u:Value} {pos:Pos} (hg:Gl X x) (hm:X.mg x = none) (hv:bootBuiltins x = some u) (r:RelV v u) (hn:x ≠ "__name__" := by decide) (hd:(x == ("__debug__" : Str)) = false:=by decide):PE X (.Name x pos) (tC v) :=
  fun _ _ _ H _ I h => Zep I hg hm hv ⟨v,H,I,r,h⟩ hn hd
variable {a b:Expr} {ta tb:TE} {pos:Pos}
def tB (t:TE):TT:=fun σ H Q => t σ H fun x H1 => ∃ c,x = .bl c ∧ Q c H1
theorem ZaD {e:Expr} {t:TE} (h:PE X e t) (he:∀ whole,isTrue e X.env whole = (do let v ← whole; standAt e.pos; holding [v] (truthy v)):=by intro _; rfl):PT X e (tB t):=by
  intro pins s σ H Q I hw
  refine isTrue_plain (thn (h pins s σ H _ I hw) fun v s1 ⟨x,H1,I1,r1,q1⟩ => ?_) (he _)
  obtain ⟨d,rfl,q⟩:=q1
  cases r1
  exact wpAny_truthy_bool ⟨H1,I1,q⟩
variable {tA tB':TT} {Zha:List Expr}
def ZmL (t u:TT):TT:=fun σ H Q => t σ H fun c H1 => if c = true then u σ H1 Q else Q false H1
def tOr (t u:TT):TT:=fun σ H Q => t σ H fun c H1 => if c = true then Q true H1 else u σ H1 Q
def ZmM (t:TT):TT:=fun σ H Q => t σ H fun c H1 => Q (!c) H1
theorem ZfW (ha:PT X a tA):PW X (.BoolOp .And [a] pos) tA:=by
  intro wh pins s σ H Q I h
  refine isTrue_and (thn (ha pins s σ H Q I h) fun c s1 e => ?_)
  cases c with
  | true => exact isTrue_and_nil e
  | false => exact e
theorem ZbF (ha:PT X a tA):PW X (.BoolOp .Or [a] pos) tA:=by
  intro wh pins s σ H Q I h
  refine isTrue_or (thn (ha pins s σ H Q I h) fun c s1 e => ?_)
  cases c with
  | false => exact isTrue_or_nil e
  | true => exact e
theorem Zgx (ha:PT X a tA) (hb:PW X (.BoolOp .And (b :: Zha) pos) tB'):PW X (.BoolOp .And (a :: b :: Zha) pos) (ZmL tA tB'):=by
  intro wh pins s σ H Q I h
  refine isTrue_and (thn (ha pins s σ H _ I h) fun c s1 ⟨H1,I1,q1⟩ => ?_)
  cases c with
  | true => exact hb wh pins s1 σ H1 Q I1 q1
  | false => exact ⟨H1,I1,q1⟩
theorem ZbW (ha:PT X a tA) (hb:PW X (.BoolOp .Or (b :: Zha) pos) tB'):PW X (.BoolOp .Or (a :: b :: Zha) pos) (tOr tA tB'):=by
  intro wh pins s σ H Q I h
  refine isTrue_or (thn (ha pins s σ H _ I h) fun c s1 ⟨H1,I1,q1⟩ => ?_)
  cases c with
  | true => exact ⟨H1,I1,q1⟩
  | false => exact hb wh pins s1 σ H1 Q I1 q1
theorem ZaN (ha:PT X a tA):PT X (.UnaryOp .Not a pos) (ZmM tA):=by
  intro pins s σ H Q I h
  exact isTrue_not (ha pins s σ H (fun c H1 => Q (!c) H1) I h)
def ZlZ (ta tb:TE):TE:=fun σ H Q => ta σ H fun x H1 => ∃ c,x = .bl c ∧ if c = true then tb σ H1 Q else Q (.bl false) H1
def ZmN (ta tb:TE):TE:=fun σ H Q => ta σ H fun x H1 => ∃ c,x = .bl c ∧ if c = true then Q (.bl true) H1 else tb σ H1 Q
def Zl0 (ta:TE):TE:=fun σ H Q => ta σ H fun x H1 => ∃ c,x = .bl c ∧ Q (.bl (!c)) H1
theorem ZbG {op} {t:TE} (h:PE X a t):PE X (.BoolOp op [a] pos) t:=fun pins s σ H Q I hw => BoolOp_one (h pins s σ H Q I hw)
theorem Zca (ha:PE X a ta) (hb:PE X (.BoolOp .And (b :: Zha) pos) tb):PE X (.BoolOp .And (a :: b :: Zha) pos) (ZlZ ta tb):=by
  intro pins s σ H Q I h
  refine BoolOp_and (thn (ha pins s σ H _ I h) fun v s1 ⟨x,H1,I1,r1,q1⟩ => ?_)
  obtain ⟨c,rfl,q1⟩:=q1
  cases r1
  refine wpAny_truthy_bool ?_
  cases c with
  | true => exact hb pins s1 σ H1 Q I1 q1
  | false => exact ⟨.bl false,H1,I1,rfl,q1⟩
theorem Zlb (ha:PE X a ta) (hb:PE X (.BoolOp .Or (b :: Zha) pos) tb):PE X (.BoolOp .Or (a :: b :: Zha) pos) (ZmN ta tb):=by
  intro pins s σ H Q I h
  refine BoolOp_or (thn (ha pins s σ H _ I h) fun v s1 ⟨x,H1,I1,r1,q1⟩ => ?_)
  obtain ⟨c,rfl,q1⟩:=q1
  cases r1
  refine wpAny_truthy_bool ?_
  cases c with
  | false => exact hb pins s1 σ H1 Q I1 q1
  | true => exact ⟨.bl true,H1,I1,rfl,q1⟩
theorem Zgy (ha:PE X a ta):PE X (.UnaryOp .Not a pos) (Zl0 ta):=by
  intro pins s σ H Q I h
  refine UnaryOp_ (thn (ha pins s σ H _ I h) fun v s1 ⟨x,H1,I1,r1,q1⟩ => ?_)
  obtain ⟨c,rfl,q1⟩:=q1
  cases r1
  exact not_of (wpAny_truthy_bool ⟨.bl (!c),H1,I1,rfl,q1⟩)
end
end L2
namespace L2
open PySem PySem.Spec PyProof.Rows
def SqL (K:PySem.W.Frag) (H:Hp) (a:Addr) (xs:List V):Prop :=
  Rd H a (.lst xs) ∨
    ∃ (o:Obj) (its:Array Value) (n:Nat),K.lookup a = some o ∧ o.cls = .type "list" ∧ o.dict = none ∧ o.data = .seq its n ∧ its.size ≤ sizeLine ∧ Vals xs its.toList
def SqT (K:PySem.W.Frag) (H:Hp) (a:Addr) (xs:List V):Prop :=
  Rd H a (.tup xs) ∨
    ∃ (o:Obj) (its:Array Value) (n:Nat),K.lookup a = some o ∧ o.cls = .type "tuple" ∧ o.data = .seq its n ∧ its.size ≤ sizeLine ∧ Vals xs its.toList
def ZmO:Value → Option V
  | .none => some .non
  | .bool b => some (.bl b)
  | .int i _ => some (.int i)
  | .str x _ => some (.str x)
  | .bytes b _ => some (.byt b)
  | .float b _ => some (.flt b)
  | .ref a => some (.ref a)
  | .type n => some (.ty n)
  | _ => none
theorem RelV.abs {x:V} {u:Value} (r:RelV x u):ZmO u = some x:=by
  cases x with
  | non => cases r; rfl
  | bl _ => cases r; rfl
  | int _ => obtain ⟨t,rfl⟩:=r; rfl
  | str _ => obtain ⟨t,rfl⟩:=r; rfl
  | byt _ => obtain ⟨t,rfl⟩:=r; rfl
  | flt _ => obtain ⟨t,rfl⟩:=r; rfl
  | ref _ => cases r; rfl
  | ty _ => cases r; rfl
theorem RelV.inj {x y:V} {u:Value} (r:RelV x u) (q:RelV y u):x = y:=Option.some.inj (r.abs.symm.trans q.abs)
theorem Vals.inj:∀ {xs ys:List V} {us:List Value},Vals xs us → Vals ys us → xs = ys
  | _,_,_,.nil,.nil => rfl
  | _,_,_,.cons r t,.cons r' t' => by rw [r.inj r',Vals.inj t t']
section
variable {X:Cx} {pins:List (Addr × Obj)} {σ:St} {H:Hp} {s:Shared} {a:Addr} {xs ys:List V}
theorem SqL.of {K:PySem.W.Frag} (h:H a = some (.lst xs)):SqL K H a xs:=.inl (.inl h)
theorem SqT.of {K:PySem.W.Frag} (h:H a = some (.tup xs)):SqT K H a xs:=.inl (.inl h)
theorem Inv.list (I:Inv X pins σ H s) (h:SqL X.K H a xs):∃ its:List Value,Vals xs its ∧ PlainL s.heap a its.toArray ∧ xs.length ≤ sizeLine:=by
  rcases h with h | ⟨o,its,n,hk,hc,hd,hs,hz,r⟩
  · obtain ⟨z,its,n,r,e⟩:=h.ok I.hok
    exact ⟨its,r,⟨_,n,e,rfl,rfl,rfl⟩,z⟩
  · refine ⟨its.toList,r,⟨o,n,I.kIn a o hk,hc,hd,by simpa using hs⟩,?_⟩
    have e:=r.length
    simp only [Array.length_toList] at e
    omega
theorem Inv.tuple (I:Inv X pins σ H s) (h:SqT X.K H a xs):∃ its:List Value,Vals xs its ∧ IsTup s.heap a its.toArray ∧ xs.length ≤ sizeLine:=by
  rcases h with h | ⟨o,its,n,hk,hc,hs,hz,r⟩
  · obtain ⟨z,its,r,p⟩:=h.ok I.hok
    exact ⟨its,r,p,z⟩
  · refine ⟨its.toList,r,⟨o,I.kIn a o hk,hc,n,by simpa using hs⟩,?_⟩
    have e:=r.length
    simp only [Array.length_toList] at e
    omega
theorem Inv.list_inj (I:Inv X pins σ H s) (h:SqL X.K H a xs) (h':SqL X.K H a ys):xs = ys:=by
  obtain ⟨its,r,⟨o,n,e,_,_,d⟩,_⟩:=I.list h
  obtain ⟨its',r',⟨o',n',e',_,_,d'⟩,_⟩:=I.list h'
  rw [e] at e'; cases e'
  rw [d] at d'
  injection d' with d1 _
  have:its = its':=by simpa using congrArg Array.toList d1
  subst this
  exact r.inj r'
end
abbrev Cx.wish (X:Cx) (E:Value → Shared → Prop):Cx:={ X with xe:=E }
abbrev Cx.nox (X:Cx):Cx:=X.wish fun _ _ => False
theorem Cx.Ok.wish {X:Cx} (ok:X.Ok) (E:Value → Shared → Prop):(X.wish E).Ok :=
  ⟨ok.mod,ok.kind,ok.glob,ok.blt,ok.above,ok.inj,ok.has,ok.cab,ok.hd,ok.frames,ok.stk,ok.exf,ok.bs,ok.bsz,ok.noex,ok.exfs,ok.funs,ok.frf⟩
theorem Cx.Ok.unwish {X:Cx} {E:Value → Shared → Prop} (ok:(X.wish E).Ok):X.Ok :=
  ⟨ok.mod,ok.kind,ok.glob,ok.blt,ok.above,ok.inj,ok.has,ok.cab,ok.hd,ok.frames,ok.stk,ok.exf,ok.bs,ok.bsz,ok.noex,ok.exfs,ok.funs,ok.frf⟩
section
variable {X:Cx} {pins:List (Addr × Obj)} {σ:St} {H:Hp} {s:Shared} {E:Value → Shared → Prop}
theorem Inv.wish (I:Inv X pins σ H s) (E:Value → Shared → Prop):Inv (X.wish E) pins σ H s:=⟨I.ok.wish E,I.os,I.bare,I.base,I.loc,I.cell,I.free,I.freeC,I.pin,I.hok,I.len⟩
theorem Inv.unwish (I:Inv (X.wish E) pins σ H s):Inv X pins σ H s:=⟨I.ok.unwish,I.os,I.bare,I.base,I.loc,I.cell,I.free,I.freeC,I.pin,I.hok,I.len⟩
theorem SP.unwish {D:Ends} {f:Flow} {s':Shared} (h:SP (X.wish E) pins D f s'):SP X pins D f s':=by
  cases f with
  | next => obtain ⟨σ',H',I,q⟩:=h; exact ⟨σ',H',I.unwish,q⟩
  | brk => obtain ⟨σ',H',I,q⟩:=h; exact ⟨σ',H',I.unwish,q⟩
  | cont => obtain ⟨σ',H',I,q⟩:=h; exact ⟨σ',H',I.unwish,q⟩
  | ret u => obtain ⟨v,σ',H',I,r,q⟩:=h; exact ⟨v,σ',H',I.unwish,r,q⟩
theorem PE.nox {e:Expr} {t:TE} (h:PE X.nox e t):PE X e t:=fun pins s σ H Q I hw =>
  wpAny_mono (h pins s σ H Q (I.wish _) hw) (fun _ _ ⟨v,H',I',r,q⟩ => ⟨v,H',I'.unwish,r,q⟩) fun _ _ z => False.elim z
theorem PT.nox {e:Expr} {t:TT} (h:PT X.nox e t):PT X e t:=fun pins s σ H Q I hw =>
  wpAny_mono (h pins s σ H Q (I.wish _) hw) (fun _ _ ⟨H',I',q⟩ => ⟨H',I'.unwish,q⟩) fun _ _ z => False.elim z
theorem PSs.nox {st:List Stmt} {t:TS} (h:PSs X.nox st t):PSs X st t:=fun pins s σ H D I hw =>
  wpAny_mono (h pins s σ H D (I.wish _) hw) (fun _ _ q => q.unwish) fun _ _ z => False.elim z
end
section
variable {X:Cx} {st:Stmt} {Zha:List Stmt} {t u:TS} {e:Expr} {te:TE} {pos:Pos}
def Zl1:TS:=fun D σ H => D.nx σ H
def ZmP (t u:TS):TS:=fun D σ H => t { D with nx:=u D } σ H
theorem Zao:PSs X [] Zl1:=fun _ _ σ H _ I h => wpAny_execs_nil ⟨σ,H,I,h⟩
theorem Zad (h1:PS X st t) (h2:PSs X Zha u):PSs X (st :: Zha) (ZmP t u):=by
  intro pins s σ H D I h
  refine wpAny_execs_cons (thn (h1 pins s σ H { D with nx:=u D } I h) fun f s1 q => ?_)
  cases f with
  | next =>
    obtain ⟨σ',H',I',q⟩:=q
    exact h2 pins s1 σ' H' D I' q
  | ret v => exact q
  | brk => exact q
  | cont => exact q
theorem Zae (h1:PS X st t):PSs X [st] t:=by
  intro pins s σ H D I h
  refine wpAny_execs_cons (thn (h1 pins s σ H D I h) fun f s1 q => ?_)
  cases f with
  | next => exact wpAny_execs_nil q
  | ret v => exact q
  | brk => exact q
  | cont => exact q
theorem Inv.quiet {pins:List (Addr × Obj)} {σ:St} {H:Hp} {s:Shared} (I:Inv X pins σ H s):interactive X.env = false:=by simp [interactive,I.ok.kind]
def Zl2 (te:TE):TS:=fun D σ H => te σ H fun _ H1 => D.nx σ H1
theorem Zcd (he:PE X e te) (hs:swapsWith e none pos.line X.env = pure false:=by rfl):PS X (.Expr e pos) (Zl2 te):=by
  intro pins s σ H D I h
  exact wpAny_Expr_any (thn (he pins s σ H _ I h) fun v s1 ⟨x,H1,I1,r1,q1⟩ => ⟨σ,H1,I1,q1⟩) I.quiet hs
def ZmQ (te:TE):TS:=fun D σ H => te σ H D.rt
theorem Zai (he:PE X e te):PS X (.Return (some e) pos) (ZmQ te):=by
  intro pins s σ H D I h
  exact wpAny_Return_some (thn (he pins s σ H _ I h) fun v s1 ⟨x,H1,I1,r1,q1⟩ => ⟨x,σ,H1,I1,r1,q1⟩)
def ZmR (c:TT) (t u:TS):TS:=fun D σ H => c σ H fun b H1 => if b = true then t D σ H1 else u D σ H1
theorem ZaC {c:Expr} {a b:List Stmt} {tc:TT} (hc:PT X c tc) (ha:PSs X a t) (hb:PSs X b u):PS X (.If c a b pos) (ZmR tc t u):=by
  intro pins s σ H D I h
  refine wpAny_If (thn (hc pins s σ H _ I h) fun d s1 ⟨H1,I1,q1⟩ => ?_)
  cases d with
  | true => exact ha pins s1 σ H1 D I1 q1
  | false => exact hb pins s1 σ H1 D I1 q1
def Zlc:TS:=fun _ _ _ => False
theorem Zi8:PS X st Zlc:=fun _ _ _ _ _ _ h => h.elim
end
abbrev TG:=V → St → Hp → (St → Hp → Prop) → Prop
abbrev TGs:=List V → St → Hp → (St → Hp → Prop) → Prop
def PG (X:Cx) (target:Expr) (t:TG):Prop :=
  ∀ (pins:List (Addr × Obj)) (s:Shared) (σ:St) (H:Hp) (v:V) (u:Value) (Q:St → Hp → Prop),Inv X pins σ H s → RelV v u → t v σ H Q →
    wpAny (model X.prog X.w) X.A (assign target X.env u) (fun _ s' => ∃ σ' H',Inv X pins σ' H' s' ∧ Q σ' H') X.xe s
def PGs (X:Cx) (ts:List Expr) (t:TGs):Prop :=
  ∀ (pins:List (Addr × Obj)) (s:Shared) (σ:St) (H:Hp) (vs:List V) (us:List Value) (Q:St → Hp → Prop),Inv X pins σ H s → Vals vs us → t vs σ H Q →
    wpAny (model X.prog X.w) X.A (assignInOrder ((assignEach ts X.env).map (·.2)) us) (fun _ s' => ∃ σ' H',Inv X pins σ' H' s' ∧ Q σ' H') X.xe s
abbrev Zl3:=V → V → V → Hp → (Hp → Prop) → Prop
def Zmz (X:Cx) (t:Zl3):Prop :=
  ∀ (pins:List (Addr × Obj)) (s:Shared) (σ:St) (H:Hp) (o i v:V) (ov iv u:Value) (Q:Hp → Prop),Inv X pins σ H s → RelV o ov → RelV i iv → RelV v u → t o i v H Q →
    wpAny (model X.prog X.w) X.A (setItem ov iv u) (fun _ s' => ∃ H',Inv X pins σ H' s' ∧ Q H') X.xe s
abbrev TIp:=V → V → Hp → VK → Prop
def PIp (X:Cx) (op:Operator) (t:TIp):Prop :=
  ∀ (pins:List (Addr × Obj)) (s:Shared) (σ:St) (H:Hp) (x y:V) (v u:Value) (Q:VK),Inv X pins σ H s → RelV x v → RelV y u → t x y H Q →
    wpAny (model X.prog X.w) X.A (inplaceOp op v u) (EP X pins σ Q) X.xe s
section
variable {X:Cx} {pos:Pos}
def Zdt (i:Nat):TG:=fun v σ H Q => Q (σ.set i (some v)) H
theorem ZaH {i:Nat} {x:Str} (hN:X.N.Nodup) (hi:X.N[i]? = some x) (hx:Loc X.env.scope x) (hf:X.fn x = true ∨ X.env.scope.names.lookup x = some .local:=by first | exact .inl rfl | exact .inr rfl | assumption):PG X (.Name x pos) (Zdt i):=by
  intro pins s σ H v u Q I r h
  exact wpAny_assign_Name (Zcu I hN hi hx r (fun s' I' => ⟨_,H,I',h⟩) hf)
def ZmA:TGs:=fun vs σ H Q => vs = [] ∧ Q σ H
def Zkl (t:TG) (u:TGs):TGs:=fun vs σ H Q => ∃ v r,vs = v :: r ∧ t v σ H fun σ' H' => u r σ' H' Q
theorem ZfX:PGs X [] ZmA:=by
  intro pins s σ H vs us Q I r h
  obtain ⟨e,h⟩:=h
  subst e
  cases r
  exact assignInOrder_nil ⟨σ,H,I,h⟩
theorem Zcv {e:Expr} {es:List Expr} {t:TG} {u:TGs} (h1:PG X e t) (h2:PGs X es u)
    (hs:(assignEach (e :: es) X.env).map (·.2) = assign e X.env :: (assignEach es X.env).map (·.2):=by rfl):PGs X (e :: es) (Zkl t u):=by
  intro pins s σ H vs us Q I r h
  obtain ⟨v,vr,e1,h⟩:=h
  subst e1
  cases r with
  | cons r rr =>
    rw [hs]
    refine assignInOrder_cons (thn (h1 pins s σ H _ _ _ I r h) fun _ s1 ⟨σ1,H1,I1,q1⟩ => ?_)
    exact h2 pins s1 σ1 H1 _ _ Q I1 rr q1
def Zl4 (K:PySem.W.Frag) (n:Nat) (t:TGs):TG:=fun v σ H Q => ∃ a xs,v = .ref a ∧ SqT K H a xs ∧ xs.length = n ∧ t xs σ H Q
theorem ZjR {es:List Expr} {k:Nat} {t:TGs} {n:Nat} (hc:X.calm = true) (h:PGs X es t)
    (hn:(assignEach es X.env).length = n:=by rfl) (hst:(assignEach es X.env).findIdx? (·.1) = none:=by rfl):PG X (.Tuple es k pos) (Zl4 X.K n t):=by
  intro pins s σ H v u Q I r hw
  obtain ⟨a,xs,e1,hq,hl,hw⟩:=hw
  subst e1
  cases r
  obtain ⟨its,rv,ht,hz⟩:=I.tuple hq
  refine assign_Tuple_tuple (I.ok.hd hc) ht (by simp [hn,← hl,rv.length]) hst fun h' hx => ?_
  have I1:Inv X pins σ H { s with heap:=h' }:=I.kept (t':=s.toks) fun b o e => hx b o (Nat.ne_of_lt (Heap.lt_size e)) e
  exact h pins _ σ H xs _ Q I1 (by simpa using rv) hw
def ZmS (to ti:TE) (t:Zl3):TG:=fun v σ H Q => to σ H fun o H1 => ti σ H1 fun i H2 => t o i v H2 fun H3 => Q σ H3
theorem Zld {o i:Expr} {to ti:TE} {t:Zl3} (ho:PE X o to) (hi:PE X i ti) (hs:Zmz X t)
    (ha:∀ v,assign (.Subscript o i pos) X.env v = (do
      let ov ← holding [v] (eval o X.env)
      let iv ← holding [v,ov] (eval i X.env)
      standAt pos
      holding [v,ov,iv] (setItem ov iv v)
      release [v,ov,iv] []):=by intro _; rfl):PG X (.Subscript o i pos) (ZmS to ti t):=by
  intro pins s σ H v u Q I r h
  rw [ha]
  refine wpAny_bind (wpAny_holding (thn (ho pins s σ H _ I h) fun ov s1 ⟨x,H1,I1,r1,q1⟩ => ?_))
  refine wpAny_bind (wpAny_holding (thn (hi pins s1 σ H1 _ I1 q1) fun iv s2 ⟨y,H2,I2,r2,q2⟩ => ?_))
  refine wpAny_bind (wpAny_standAt (wpAny_bind (wpAny_holding (thn (hs pins s2 σ H2 x y v ov iv u _ I2 r1 r2 r q2) fun _ s3 ⟨H3,I3,q3⟩ => ?_))))
  exact wpAny_release ⟨σ,H3,I3,q3⟩
def Zl5 (te:TE) (g:TG):TS:=fun D σ H => te σ H fun x H1 => g x σ H1 D.nx
theorem Zle {tg e:Expr} {te:TE} {g:TG} (he:PE X e te) (hg:PG X tg g) (hs:swapsWithSole [tg] e pos.line X.env = pure false:=by rfl) (hw:swappedStores [tg] e X.env = pure none:=by rfl)
    (h1:(assignEach [tg] X.env).map (·.2) = [assign tg X.env]:=by rfl):PS X (.Assign [tg] e pos) (Zl5 te g):=by
  intro pins s σ H D I h
  refine wpAny_Assign_stores (thn (he pins s σ H _ I h) fun v s1 ⟨x,H1,I1,r1,q1⟩ => ?_) hs hw
  rw [h1]
  exact thn (hg pins s1 σ H1 x v _ I1 r1 q1) fun _ s2 q => q
theorem Zas {i:Nat} {x:Str} {e:Expr} {te:TE} {pos':Pos} (hN:X.N.Nodup) (hi:X.N[i]? = some x) (hx:Loc X.env.scope x) (he:PE X e te) (hs:swapsWith e (some (.Name x pos')) pos.line X.env = pure false:=by rfl) (hf:X.fn x = true ∨ X.env.scope.names.lookup x = some .local:=by first | exact .inl rfl | exact .inr rfl | assumption) :
    PS X (.Assign [.Name x pos'] e pos) (Zl5 te (Zdt i)):=by
  intro pins s σ H D I h
  refine wpAny_Assign_Name (thn (he pins s σ H _ I h) fun v s1 ⟨y,H1,I1,r1,q1⟩ => ?_) hs
  exact Zcu I1 hN hi hx r1 (fun s2 I2 => ⟨_,H1,I2,q1⟩) hf
def ZmT (i j:Nat) (ta:TA):TS:=fun D σ H => ta σ H fun vs H1 => ∃ v w,vs = [v,w] ∧ D.nx ((σ.set i (some v)).set j (some w)) H1
theorem Zlf {i j:Nat} {x y:Str} {a b:Expr} {ta:TA} {px py pt:Pos} {kt k2 pt2} (hc:X.calm = true) (hN:X.N.Nodup) (hi:X.N[i]? = some x) (hj:X.N[j]? = some y) (hij:i ≠ j)
    (hx:X.env.scope.names.lookup x = some .local) (hy:X.env.scope.names.lookup y = some .local) (ha:PA X [a,b] ta)
    (hw:swappedStores [.Tuple [.Name x px,.Name y py] kt pt] (.Tuple [a,b] k2 pt2) X.env = pure (some [x,y]))
    (hs:swapsWithSole [.Tuple [.Name x px,.Name y py] kt pt] (.Tuple [a,b] k2 pt2) pos.line X.env = pure false:=by rfl) :
    PS X (.Assign [.Tuple [.Name x px,.Name y py] kt pt] (.Tuple [a,b] k2 pt2) pos) (ZmT i j ta):=by
  intro pins s σ H D I h
  rw [exec_Assign_arm]
  refine wpAny_bind (wpAny_standAt ?_)
  rw [hs]
  refine wpAny_bind (wpAny_pure ?_)
  rw [if_neg (by decide)]
  refine wpAny_bind (Tuple_ (thn (ha _ pins s σ H _ I h) fun us s1 ⟨vs,H1,I1,r1,q1⟩ => ?_))
  obtain ⟨v,w,e1,q1⟩:=q1
  subst e1
  obtain ⟨u1,u2,rfl,rv,rw'⟩:∃ u1 u2,us = [u1,u2] ∧ RelV v u1 ∧ RelV w u2:=by
    cases r1 with
    | cons p q =>
      cases q with
      | cons p' q' =>
        cases q'
        exact ⟨_,_,rfl,p,p'⟩
  refine wpAny_newObj_type ?_ (by show 2 ≤ sizeLine; decide)
  have I2:Inv X pins σ H1 { s1 with heap:=s1.heap.push { cls:=.type "tuple", data:=.seq [u1,u2].toArray } }:=I1.kept (t':=s1.toks) fun b o e => Heap.get?_push_of_some _ e
  rw [hw]
  refine wpAny_bind (wpAny_pure ?_)
  show wpAny (model X.prog X.w) X.A (do rule "assign.swapped-stores"; let items ← unpackItems (.ref s1.heap.objs.size) 2 none; assignInOrder [fun v => bindName X.env y v,fun v => bindName X.env x v] items.reverse; pure Flow.next) _ _ _
  refine wpAny_bind (wpAny_rule (wpAny_bind (unpackItems_tuple (items:=#[u1,u2]) (I.ok.hd hc) (IsTup.new s1.heap _) fun h' hx' => ?_)))
  have I3:=I2.kept (h':=h') (t':=s1.toks) fun b o e => hx' b o (Nat.ne_of_lt (Heap.lt_size e)) e
  show wpAny _ _ (assignInOrder [fun v => bindName X.env y v,fun v => bindName X.env x v] [u2,u1] >>= fun _ => pure Flow.next) _ _ _
  refine wpAny_bind (assignInOrder_cons (wpAny_bindName (Zcu I3 hN hj (.inl hy) rw' (fun s2 I4 => ?_) (.inr hy))))
  refine assignInOrder_cons (wpAny_bindName (Zcu I4 hN hi (.inl hx) rv (fun s3 I5 => assignInOrder_nil (wpAny_pure ?_)) (.inr hx)))
  rw [List.set_comm _ _ (Ne.symm hij)] at I5
  exact ⟨_,H1,I5,q1⟩
def ZmU (i:Nat) (te:TE) (ti:TIp):TS:=fun D σ H => ∃ x,σ[i]? = some (some x) ∧ te σ H fun y H1 => ti x y H1 fun z H2 => D.nx (σ.set i (some z)) H2
theorem ZhJ {i:Nat} {x:Str} {e:Expr} {te:TE} {op:Operator} {ti:TIp} {pos':Pos} (hN:X.N.Nodup) (hi:X.N[i]? = some x) (hx:Loc X.env.scope x) (he:PE X e te) (ho:PIp X op ti) (hf:X.fn x = true ∨ X.env.scope.names.lookup x = some .local:=by first | exact .inl rfl | exact .inr rfl | assumption) :
    PS X (.AugAssign (.Name x pos') op e pos) (ZmU i te ti):=by
  intro pins s σ H D I h
  obtain ⟨v,e1,h⟩:=h
  obtain ⟨m,hn,hl⟩:=I.loc
  have vis:Vis X.env.scope x:=by rcases hx with k | k; exact .inl k; exact .inr (.inl k)
  obtain ⟨u,r,l⟩:=hl i x v hi e1 vis
  refine wpAny_AugAssign_Name ?_
  have go:wpAny (model X.prog X.w) X.A (eval e X.env) (fun w s₂ => wpAny (model X.prog X.w) X.A (inplaceOp op u w) (fun r s₃ => wpAny (model X.prog X.w) X.A (storeName X.env x r) (fun _ => SP X pins D .next) X.xe s₃) X.xe s₂) X.xe s:=by
    refine thn (he pins s σ H _ I h) fun w s1 ⟨y,H1,I1,r1,q1⟩ => ?_
    refine thn (ho pins s1 σ H1 v y u w _ I1 r r1 q1) fun z s2 ⟨zv,H2,I2,r2,q2⟩ => ?_
    exact Zcu I2 hN hi hx r2 (fun s3 I3 => ⟨_,H2,I3,q2⟩) hf
  rcases l with ⟨hk,hm⟩ | ⟨hk,c,hc,hcell⟩
  · exact wpAny_loadName_local I.ok.kind hk hn hm go
  · rcases hk with hk | hk
    · exact wpAny_loadName_cell I.ok.kind hk hc hcell go
    · rcases hx with k | k
      · have:X.env.scope.names.lookup x = some .free:=hk
        rw [k] at this; cases this
      · have:X.env.scope.names.lookup x = some .free:=hk
        rw [k] at this; cases this
def ipI (f:Int → Int → Int):TIp:=fun x y H Q => ∃ i j,x = .int i ∧ y = .int j ∧ Q (.int (f i j)) H
theorem ZjS:PIp X .Add (ipI fun i j => i + j):=by
  intro pins s σ H x y v u Q I r1 r2 h
  obtain ⟨i,j,e1,e2,q⟩:=h
  subst e1; subst e2
  obtain ⟨t,rfl⟩:=r1
  obtain ⟨t',rfl⟩:=r2
  exact iadd_int ⟨.int _,H,I.tok _,⟨_,rfl⟩,q⟩
theorem Zlg:PIp X .Sub (ipI fun i j => i - j):=by
  intro pins s σ H x y v u Q I r1 r2 h
  obtain ⟨i,j,e1,e2,q⟩:=h
  subst e1; subst e2
  obtain ⟨t,rfl⟩:=r1
  obtain ⟨t',rfl⟩:=r2
  exact isub_int ⟨.int _,H,I.tok _,⟨_,rfl⟩,q⟩
end
section
variable {X:Cx} {pos:Pos}
def Zlh (c:TT) (tb:TS):TS:=fun D σ H => ∃ W:Nat → St → Hp → Prop,(∃ m,W m σ H) ∧ ∀ m σ H,W m σ H →
  c σ H fun b H1 => if b = true then ∃ N:St → Hp → Prop,(∀ σ' H',N σ' H' → ∃ m',m' < m ∧ W m' σ' H') ∧ tb { D with nx:=N,ct:=N,bk:=D.nx } σ H1 else D.nx σ H1
theorem ZbH {c:Expr} {body:List Stmt} {tc:TT} {tb:TS} (hp:PassesOwn (model X.prog X.w) X.A X.env X.xe) (hc:PT X c tc) (hb:PSs X body tb):PS X (.While c body [] pos) (Zlh tc tb):=by
  intro pins s σ H D I h
  obtain ⟨W,⟨m0,w0⟩,turn⟩:=h
  refine wpAny_While (codeAny_whileLoop (fun n s' => ∃ σ' H',Inv X pins σ' H' s' ∧ W n σ' H') ?_ m0 ⟨σ,H,I,w0⟩)
  rintro n s1 ⟨σ1,H1,I1,w1⟩
  refine wpAny_passesOwn hp (thn (hc pins s1 σ1 H1 _ I1 (turn n σ1 H1 w1)) fun b s2 ⟨H2,I2,q2⟩ => ?_)
  cases b with
  | true =>
    obtain ⟨N,hN,q2⟩:=q2
    rw [if_pos rfl]
    refine wpAny_passesOwn hp (thn (hb pins s2 σ1 H2 _ I2 q2) fun f s3 q3 => ?_)
    cases f with
    | next =>
      obtain ⟨σ3,H3,I3,n3⟩:=q3
      obtain ⟨m',hm,w3⟩:=hN σ3 H3 n3
      exact ⟨m',hm,σ3,H3,I3,w3⟩
    | cont =>
      obtain ⟨σ3,H3,I3,n3⟩:=q3
      obtain ⟨m',hm,w3⟩:=hN σ3 H3 n3
      exact ⟨m',hm,σ3,H3,I3,w3⟩
    | brk => exact q3
    | ret v => exact q3
  | false =>
    rw [if_neg Bool.false_ne_true]
    exact wpAny_execs_nil ⟨σ1,H2,I2,q2⟩
end
structure It where
  go:Nat → Hp → Prop
  yld:Nat → Hp → V → Hp → Prop
  stop:Nat → Hp → Prop
def ZhK (X:Cx) (pins:List (Addr × Obj)) (H:Hp) (b:Addr):Prop :=
  H b = none ∧ b ≠ X.env.locals ∧ b ∉ X.fs ∧ (b ∈ X.ex ∨ X.s₀.heap.objs.size ≤ b) ∧ (∀ x c,X.env.cells.lookup x = some c → c ≠ b) ∧ ∀ p ∈ X.pn ++ pins,p.1 ≠ b
theorem Inv.fpOk {X:Cx} {pins:List (Addr × Obj)} {σ:St} {H H':Hp} {s:Shared} {b:Addr} (I:Inv X pins σ H s) (hb:s.heap.objs.size ≤ b) (hn:H' b = none):ZhK X pins H' b:=by
  refine ⟨hn,Nat.ne_of_gt (Nat.lt_of_lt_of_le I.lt hb),I.nofs hb,.inr (Nat.le_trans I.sz hb),fun x c e z => ?_,fun p hp z => ?_⟩
  · obtain ⟨v,q⟩:=I.cell x c e
    exact absurd (Nat.lt_of_lt_of_le q.lt (by rw [z]; exact hb)) (Nat.lt_irrefl _)
  · exact absurd (Nat.lt_of_lt_of_le (Heap.lt_size (I.pin p hp).1) (by rw [z]; exact hb)) (Nat.lt_irrefl _)
structure Turn (P:Program) (w:World) (K:PySem.W.Frag) (tg:Expr) (J:It) (fp:List Addr) (it:Addr) (tn:Nat → Heap → Prop):Prop where
  mem:it ∈ fp
  obj:∀ i h,tn i h → ∀ b ∈ fp,∃ o,h.get? b = some o ∧ ∀ v,o.data ≠ .cell v
  keep:∀ i h h',tn i h → (∀ b ∈ fp,∀ o,h.get? b = some o → h'.get? b = some o) → tn i h'
  item:∀ (X:Cx),X.prog = P → X.w = w → X.K = K → X.calm = true → ∀ (i:Nat) (pins:List (Addr × Obj)) (s:Shared) (σ:St) (H:Hp) (E:Value → Shared → Prop),Inv X pins σ H s → (∀ b ∈ fp,ZhK X pins H b) → tn i s.heap → J.go i H →
    wpAny (model P w) X.A (pyNext (.ref it)) (fun r s1 => ∃ u,r = some u ∧
      wpAny (model P w) X.A (letOwnedTupleGo tg (.ref it) u) (fun _ s2 => ∃ x H',Inv X pins σ H' s2 ∧ RelV x u ∧ J.yld i H x H' ∧ tn (i + 1) s2.heap ∧ ∀ b ∈ fp,H' b = none) E s1) E s
  done:∀ (X:Cx),X.prog = P → X.w = w → X.K = K → X.calm = true → ∀ (i:Nat) (pins:List (Addr × Obj)) (s:Shared) (σ:St) (H:Hp) (E:Value → Shared → Prop),Inv X pins σ H s → (∀ b ∈ fp,ZhK X pins H b) → tn i s.heap → J.stop i H →
    wpAny (model P w) X.A (pyNext (.ref it)) (fun r s1 => r = none ∧ Inv X pins σ H s1) E s
  self:∀ (A:Around) (i:Nat) (s:Shared) (Q:Value → Shared → Prop) (E:Value → Shared → Prop),tn i s.heap → Q (.ref it) s → wpAny (model P w) A (pyIter (.ref it)) Q E s
abbrev TI:=St → Hp → (It → Hp → Prop) → Prop
def PIE (X:Cx) (pins:List (Addr × Obj)) (σ:St) (tg:Expr) (R:It → Hp → Prop) (itv:Value) (s2:Shared):Prop :=
  ∃ (it:Addr) (fp:List Addr) (tn:Nat → Heap → Prop) (J:It) (H':Hp),itv = .ref it ∧ Inv X pins σ H' s2 ∧ Turn X.prog X.w X.K tg J fp it tn ∧ tn 0 s2.heap ∧ (∀ b ∈ fp,ZhK X pins H' b) ∧ R J H'
def PI (X:Cx) (tg iter:Expr) (wi:TI):Prop :=
  ∀ (pins:List (Addr × Obj)) (s:Shared) (σ:St) (H:Hp) (R:It → Hp → Prop),Inv X pins σ H s → wi σ H R →
    wpAny (model X.prog X.w) X.A (eval iter X.env) (fun v s1 => wpAny (model X.prog X.w) X.A (pyIter v) (PIE X pins σ tg R) X.xe s1) X.xe s
theorem Zli {M:Model} {A:Around} {E:Value → Shared → Prop} {s:Shared} {tg:Expr} {it:Addr} {u:Value} {o:Obj} {n:String} {vs:Array Value} {Q:Unit → Shared → Prop} (ho:s.heap.get? it = some o) (hc:o.cls = .type n) (hd:o.data = .fields vs)
    (hn:["enumerate", "zip", "dict_itemiterator", "dict_reverseitemiterator", "odict_iterator", "itertools.zip_longest", "itertools.pairwise"].contains n = false) (hQ:Q () s):wpAny M A (letOwnedTupleGo tg (.ref it) u) Q E s:=by
  unfold letOwnedTupleGo
  cases tg <;> first
    | exact wpAny_pure hQ
    | (cases u <;> first
        | exact wpAny_pure hQ
        | (refine wpAny_bind (wpAny_load ho ?_)
           rw [hc,hd]
           show wpAny M A (if (["enumerate", "zip", "dict_itemiterator", "dict_reverseitemiterator", "odict_iterator", "itertools.zip_longest", "itertools.pairwise"].contains n && vs[0]? == some (rawInt _)) = true then _ else _) Q E s
           rw [if_neg (by intro h; rw [hn,Bool.false_and] at h; cases h)]
           exact wpAny_pure hQ))
def Itl (K:PySem.W.Frag) (a:Addr):It :=
  ⟨fun i H => ∃ xs x,SqL K H a xs ∧ xs[i]? = some x,fun i H x H' => H' = H ∧ ∀ xs,SqL K H a xs → xs[i]? = some x,fun i H => ∃ xs,SqL K H a xs ∧ xs.length ≤ i⟩
def Itr (lo:Int) (n:Nat):It:=⟨fun i _ => i < n,fun i H x H' => H' = H ∧ x = .int (lo + i),fun i _ => n ≤ i⟩
theorem ZhL {P:Program} {w:World} {K:PySem.W.Frag} {tg:Expr} (a it:Addr):Turn P w K tg (Itl K a) [it] it (fun i h => h.IsListIter it a i) where
  mem:=by simp
  obj:=fun i h st b hb => by
    have e:b = it:=by simpa using hb
    subst e
    obtain ⟨o,e,c,d⟩:=st
    exact ⟨o,e,fun v z => by rw [d] at z; cases z⟩
  keep:=fun i h h' st k => st.at fun o e => k it (by simp) o e
  item:=by
    intro X hP hw hK hc i pins s σ H E I hf st hg
    subst hP hw hK
    obtain ⟨xs,x,hq,hx⟩:=hg
    obtain ⟨its,rv,p,hz⟩:=I.list hq
    obtain ⟨u,hu,ru⟩:=rv.get hx
    obtain ⟨f0,f1,f2,f3,f4,f5⟩:=hf it (by simp)
    refine wpAny_pyNext_list_item st p.isList (x:=u) (by simpa using hu) fun h' st' sb => ?_
    have I1:Inv X pins σ H { s with heap:=h' }:=I.turned (t':=s.toks) (fun b o hb e => (sb.2 b hb).trans e) f0 f1 f3 f4 f5
    obtain ⟨o,e,c,d⟩:=id st'
    exact ⟨u,rfl,Zli (s:={ s with heap:=h' }) e c d (by decide) ⟨x,H,I1,ru,⟨rfl,fun ys hy => by rw [I.list_inj hy hq]; exact hx⟩,st',fun b hb => (hf b hb).1⟩⟩
  done:=by
    intro X hP hw hK hc i pins s σ H E I hf st hg
    subst hP hw hK
    obtain ⟨xs,hq,hx⟩:=hg
    obtain ⟨its,rv,p,hz⟩:=I.list hq
    obtain ⟨f0,f1,f2,f3,f4,f5⟩:=hf it (by simp)
    have hl:=rv.length
    exact wpAny_pyNext_list_end (I.ok.hd hc) st p.isList (by simp; omega) fun h' eb => ⟨rfl,I.turned (t':=s.toks) (fun b o hb e => eb b o hb e) f0 f1 f3 f4 f5⟩
  self:=fun _ _ _ _ _ st h => wpAny_pyIter_listiter st h
theorem Zhb {P:Program} {w:World} {K:PySem.W.Frag} {tg:Expr} (it:Addr) (lo:Int) (n:Nat):Turn P w K tg (Itr lo n) [it] it (fun i h => IsRangeIter h it (lo + (i:Nat) * 1) ((n:Int) - (i:Nat)) 1) where
  mem:=by simp
  obj:=fun i h st b hb => by
    have e:b = it:=by simpa using hb
    subst e
    exact ⟨_,st,fun v z => by
      have z':Data.fields _ = Data.cell v:=z
      cases z'⟩
  keep:=fun i h h' st k => k it (by simp) _ st
  item:=by
    intro X hP hw hK hc i pins s σ H E I hf st hg
    subst hP hw hK
    obtain ⟨f0,f1,f2,f3,f4,f5⟩:=hf it (by simp)
    have W:=Walks.range (prog:=X.prog) (w:=X.w) (I.ok.hd hc) it lo 1 n
    refine W.item i s _ _ hg st fun v h' tk hv st' kk => ?_
    obtain ⟨t,rfl⟩:=hv
    have I1:Inv X pins σ H { s with heap:=h',toks:=tk }:=I.turned (fun b o hb e => kk b o (by simpa using hb) e) f0 f1 f3 f4 f5
    refine ⟨_,rfl,Zli (s:={ s with heap:=h',toks:=tk }) (n := "range_iterator") st' rfl rfl (by decide) ⟨.int (lo + i),H,I1,⟨t,?_⟩,⟨rfl,rfl⟩,st',fun b hb => (hf b hb).1⟩⟩
    rw [Int.mul_one]
  done:=by
    intro X hP hw hK hc i pins s σ H E I hf st hg
    subst hP hw hK
    obtain ⟨f0,f1,f2,f3,f4,f5⟩:=hf it (by simp)
    exact wpAny_pyNext_range_end (I.ok.hd hc) st (by have:n ≤ i:=hg; omega) fun h' eb => ⟨rfl,I.turned (t':=s.toks) (fun b o hb e => eb b o hb e) f0 f1 f3 f4 f5⟩
  self:=fun _ _ _ _ _ st h => wpAny_pyIter_rangeiter st h
end L2
namespace L2
open PySem PySem.Spec PyProof.Rows
section
variable {X:Cx} {tg:Expr}
def Zl6 (K:PySem.W.Frag) (tl:TE):TI:=fun σ H R => tl σ H fun x H1 => ∃ a,x = .ref a ∧ (∃ xs,SqL K H1 a xs) ∧ R (Itl K a) H1
theorem ZcH {l:Expr} {tl:TE} (hl:PE X l tl):PI X tg l (Zl6 X.K tl):=by
  intro pins s σ H R I h
  refine thn (hl pins s σ H _ I h) fun v s1 ⟨x,H1,I1,r1,q1⟩ => ?_
  obtain ⟨a,e,⟨xs,hq⟩,q⟩:=q1
  subst e
  cases r1
  obtain ⟨its,rv,p,hz⟩:=I1.list hq
  refine wpAny_pyIter_list p.isList ?_
  refine ⟨s1.heap.objs.size,[s1.heap.objs.size],_,_,H1,rfl,I1.kept (t':=s1.toks) fun b o e => Heap.get?_push_of_some _ e,ZhL a _,⟨_,Heap.get?_push_size _ rfl,rfl,rfl⟩,fun b hb => ?_,q⟩
  have e:b = s1.heap.objs.size:=by simpa using hb
  subst e
  exact I1.fpOk (Nat.le_refl _) (I1.hok.fresh (Nat.le_refl _))
theorem Zgz {pins:List (Addr × Obj)} {σ:St} {H:Hp} {s:Shared} {R:It → Hp → Prop} {E:Value → Shared → Prop} {lo hi:Int} {t u v:Tok} {tk:Nat} (I:Inv X pins σ H s) (h1:-(2 ^ 62) ≤ lo) (h2:lo < 2 ^ 62) (h3:-(2 ^ 62) ≤ hi) (h4:hi < 2 ^ 62)
    (q:R (Itr lo (hi - lo).toNat) H):wpAny (model X.prog X.w) X.A (pyIter (.ref s.heap.objs.size)) (PIE X pins σ tg R) E { s with heap:=s.heap.push { cls:=.type "range", data:=.fields #[.int lo t,.int hi u,.int 1 v] },toks:=tk }:=by
  refine wpAny_pyIter_range (IsRange.new ..) (small_one h1 h2 h3 h4) ?_
  have I1:Inv X pins σ H { s with heap:=s.heap.push { cls:=.type "range", data:=.fields #[.int lo t,.int hi u,.int 1 v] },toks:=tk }:=I.kept fun b o e => Heap.get?_push_of_some _ e
  refine ⟨(s.heap.push { cls:=.type "range", data:=.fields #[.int lo t,.int hi u,.int 1 v] }).objs.size,[(s.heap.push { cls:=.type "range", data:=.fields #[.int lo t,.int hi u,.int 1 v] }).objs.size],_,_,H,rfl,
    I1.kept (t':=tk) fun b o e => Heap.get?_push_of_some _ e,Zhb _ lo (hi - lo).toNat,?_,fun b hb => ?_,q⟩
  · have e1:lo + ((0:Nat):Int) * 1 = lo:=by simp
    have e2:(((hi - lo).toNat:Nat):Int) - ((0:Nat):Int) = Builtin.Range.rangeSize lo hi 1:=by rw [rangeSize_one]; split <;> omega
    show IsRangeIter _ _ (lo + ((0:Nat):Int) * 1) ((((hi - lo).toNat:Nat):Int) - ((0:Nat):Int)) 1
    rw [e1,e2]
    exact Heap.get?_push_size _ rfl
  · have e:b = (s.heap.push { cls:=.type "range", data:=.fields #[.int lo t,.int hi u,.int 1 v] }).objs.size:=by simpa using hb
    subst e
    exact I1.fpOk (Nat.le_refl _) (I1.hok.fresh (Nat.le_refl _))
def Zl7 (ta:TA):TI:=fun σ H R => ta σ H fun vs H1 => ∃ j:Int,vs = [.int j] ∧ -(2 ^ 62) ≤ j ∧ j < 2 ^ 62 ∧ R (Itr 0 j.toNat) H1
def Zl8 (ta:TA):TI:=fun σ H R => ta σ H fun vs H1 => ∃ i j:Int,vs = [.int i,.int j] ∧ (-(2 ^ 62) ≤ i ∧ i < 2 ^ 62 ∧ -(2 ^ 62) ≤ j ∧ j < 2 ^ 62) ∧ R (Itr i (j - i).toNat) H1
theorem ZbA {a:Expr} {ta:TA} {p pos:Pos} (hg:Gl X "range") (hm:X.mg "range" = none) (ha:PA X [a] ta) (hs:starEach [a] X.env = [(false,eval a X.env)]:=by rfl):PI X tg (.Call (.Name "range" p) [a] [] pos) (Zl7 ta):=by
  intro pins s σ H R I h
  refine Call_ (Zep I hg hm boot_range (PyProof.Rows.callWith_type1 (thn (ha pos pins s σ H _ I h) fun us s1 ⟨vs,H1,I1,r1,q1⟩ => ?_) hs rfl))
  obtain ⟨j,e,q1,q2,q⟩:=q1
  subst e
  cases r1 with
  | cons r rr =>
    cases rr
    obtain ⟨t,rfl⟩:=r
    exact call_range_1 (Zgz I1 (by omega) (by omega) q1 q2 (by simpa using q))
theorem ZhM {a b:Expr} {ta:TA} {p pos:Pos} (hg:Gl X "range") (hm:X.mg "range" = none) (ha:PA X [a,b] ta) (hs:starEach [a,b] X.env = [(false,eval a X.env),(false,eval b X.env)]:=by rfl) (hs2:starEach [b] X.env = [(false,eval b X.env)]:=by rfl) :
    PI X tg (.Call (.Name "range" p) [a,b] [] pos) (Zl8 ta):=by
  intro pins s σ H R I h
  refine Call_ (Zep I hg hm boot_range (PyProof.Rows.callWith_type1 (thn (ha pos pins s σ H _ I h) fun us s1 ⟨vs,H1,I1,r1,q1⟩ => ?_) (by rw [hs,hs2]) (by rw [hs2]; rfl)))
  obtain ⟨i,j,e,⟨q1,q2,q3,q4⟩,q⟩:=q1
  subst e
  cases r1 with
  | cons r rr =>
    cases rr with
    | cons r' rr =>
      cases rr
      obtain ⟨t,rfl⟩:=r
      obtain ⟨t',rfl⟩:=r'
      exact call_range_2 (Zgz I1 q1 q2 q3 q4 q)
def ZmV (wi:TI) (g:TG) (tb:TS):TS:=fun D σ H => wi σ H fun J H1 => ∃ W:Nat → Nat → St → Hp → Prop,(∃ m,W 0 m σ H1) ∧ ∀ i m σ H,W i m σ H →
  (J.stop i H ∧ D.nx σ H) ∨ (J.go i H ∧ ∃ N:St → Hp → Prop,(∀ σ' H',N σ' H' → ∃ m',m' < m ∧ W (i + 1) m' σ' H') ∧ ∀ x H',J.yld i H x H' → g x σ H' fun σ2 H2 => tb { D with nx:=N,ct:=N,bk:=D.nx } σ2 H2)
def ZgA (fp:List Addr) (h:Heap):List (Addr × Obj):=fp.filterMap fun b => (h.get? b).map fun o => (b,o)
theorem Zcw {fp:List Addr} {h:Heap} {b:Addr} {o:Obj} (hb:b ∈ fp) (e:h.get? b = some o):(b,o) ∈ ZgA fp h:=List.mem_filterMap.mpr ⟨b,hb,by rw [e]; rfl⟩
theorem ZhN {fp:List Addr} {h:Heap} {p:Addr × Obj} (hp:p ∈ ZgA fp h):p.1 ∈ fp ∧ h.get? p.1 = some p.2:=by
  obtain ⟨b,hb,e⟩:=List.mem_filterMap.mp hp
  cases q:h.get? b with
  | none => rw [q] at e; cases e
  | some o =>
    rw [q] at e
    have e':(b,o) = p:=Option.some.inj e
    subst e'
    exact ⟨hb,q⟩
theorem Inv.pinned {pins:List (Addr × Obj)} {σ:St} {H:Hp} {s:Shared} {fp:List Addr} (I:Inv X pins σ H s) (hf:∀ b ∈ fp,ZhK X pins H b) (ho:∀ b ∈ fp,∃ o,s.heap.get? b = some o ∧ ∀ v,o.data ≠ .cell v):Inv X (pins ++ ZgA fp s.heap) σ H s :=
  I.pins_of fun p hp => (List.mem_append.mp hp).elim (fun z => I.pin p (List.mem_append_right _ z)) fun z => by
    obtain ⟨hb,e⟩:=ZhN z
    obtain ⟨f0,f1,f2,_⟩:=hf p.1 hb
    obtain ⟨o,e',d⟩:=ho p.1 hb
    rw [e] at e'; cases e'
    exact ⟨e,f0,f1,f2,d⟩
theorem Inv.unpinned {pins pl:List (Addr × Obj)} {σ:St} {H:Hp} {s:Shared} (I:Inv X (pins ++ pl) σ H s):Inv X pins σ H s:=I.pins_of fun p hp => I.pin p (List.mem_append_right _ (List.mem_append_left _ hp))
theorem ZcD {iter:Expr} {body:List Stmt} {wi:TI} {g:TG} {tb:TS} {pos:Pos} (hp:PassesOwn (model X.prog X.w) X.A X.env X.xe) (hc:X.calm = true) (hi:PI X tg iter wi) (hg:PG X tg g) (hb:PSs X body tb)
    (hs:∀ x,foldedSetIterable iter X.env x = pure x:=by intro _; rfl):PS X (.For tg iter body [] pos) (ZmV wi g tb):=by
  intro pins s σ H D I h
  refine wpAny_For (thn (hi pins s σ H _ I h) fun v s1 h1 => thn h1 fun itv s2 h2 => ?_) hs
  obtain ⟨it,fp,tn,J,H2,e,I2,T,st2,f2,W,⟨m0,w0⟩,turn⟩:=h2
  subst e
  have stat:∀ {H':Hp},(∀ b ∈ fp,H' b = none) → ∀ b ∈ fp,ZhK X pins H' b:=fun hn b hb => ⟨hn b hb,(f2 b hb).2⟩
  refine codeAny_forLoop_any (fun n s' => ∃ i σ' H',Inv X pins σ' H' s' ∧ tn i s'.heap ∧ (∀ b ∈ fp,H' b = none) ∧ W i n σ' H') ?_ m0 ⟨0,σ,H2,I2,st2,fun b hb => (f2 b hb).1,w0⟩
  rintro n s3 ⟨i,σ3,H3,I3,st3,fr3,w3⟩
  rcases turn i n σ3 H3 w3 with ⟨stop,qn⟩ | ⟨go,N,hN,step⟩
  · refine wpAny_passesOwn hp (thn (T.done X rfl rfl rfl hc i pins s3 σ3 H3 X.xe I3 (stat fr3) st3 stop) fun r s4 ⟨hr,I4⟩ => ?_)
    subst hr
    exact wpAny_execs_nil ⟨σ3,H3,I4,qn⟩
  · refine wpAny_passesOwn hp (thn (T.item X rfl rfl rfl hc i pins s3 σ3 H3 X.xe I3 (stat fr3) st3 go) fun r s4 ⟨u,hr,h4⟩ => ?_)
    subst hr
    refine wpAny_passesOwn hp (thn h4 fun _ s5 ⟨x,H5,I5,r5,y5,st5,fr5⟩ => ?_)
    have I5':=I5.pinned (stat fr5) (T.obj _ _ st5)
    refine wpAny_passesOwn hp (thn (hg _ s5 σ3 H5 x u _ I5' r5 (step x H5 y5)) fun _ s6 ⟨σ6,H6,I6,q6⟩ => ?_)
    refine wpAny_passesOwn hp (thn (hb _ s6 σ6 H6 _ I6 q6) fun f s7 q7 => ?_)
    have again:∀ {σ7:St} {H7:Hp},Inv X (pins ++ ZgA fp s5.heap) σ7 H7 s7 → N σ7 H7 → ∃ m,m < n ∧ ∃ i σ' H',Inv X pins σ' H' s7 ∧ tn i s7.heap ∧ (∀ b ∈ fp,H' b = none) ∧ W i m σ' H':=fun {σ7 H7} I7 n7 => by
      obtain ⟨m',hm,w7⟩:=hN σ7 H7 n7
      refine ⟨m',hm,i + 1,σ7,H7,I7.unpinned,T.keep _ _ _ st5 fun b hb o e => (I7.pin (b,o) (List.mem_append_right _ (List.mem_append_right _ (Zcw hb e)))).1,fun b hb => ?_,w7⟩
      obtain ⟨o,e,d⟩:=T.obj _ _ st5 b hb
      exact (I7.pin (b,o) (List.mem_append_right _ (List.mem_append_right _ (Zcw hb e)))).2.1
    cases f with
    | next => obtain ⟨σ7,H7,I7,n7⟩:=q7; exact again I7 n7
    | cont => obtain ⟨σ7,H7,I7,n7⟩:=q7; exact again I7 n7
    | brk => obtain ⟨σ7,H7,I7,q7⟩:=q7; exact ⟨σ7,H7,I7.unpinned,q7⟩
    | ret v => obtain ⟨x7,σ7,H7,I7,r7,q7⟩:=q7; exact ⟨x7,σ7,H7,I7.unpinned,r7,q7⟩
end
theorem ZcP {K:PySem.W.Frag} {a:Addr} {xs:List V} {g:TG} {tb:TS} {D:Ends} {σ:St} {H:Hp} (Pv:Nat → St → Hp → Prop) (h0:Pv 0 σ H) (hl:∀ i σ H,i ≤ xs.length → Pv i σ H → SqL K H a xs)
    (hs:∀ i x σ H,xs[i]? = some x → Pv i σ H → g x σ H fun σ2 H2 => tb { D with nx:=Pv (i + 1),ct:=Pv (i + 1),bk:=D.nx } σ2 H2) (hd:∀ σ H,Pv xs.length σ H → D.nx σ H) :
    ∃ W:Nat → Nat → St → Hp → Prop,(∃ m,W 0 m σ H) ∧ ∀ i m σ H,W i m σ H →
      ((Itl K a).stop i H ∧ D.nx σ H) ∨ ((Itl K a).go i H ∧ ∃ N:St → Hp → Prop,(∀ σ' H',N σ' H' → ∃ m',m' < m ∧ W (i + 1) m' σ' H') ∧ ∀ x H',(Itl K a).yld i H x H' → g x σ H' fun σ2 H2 => tb { D with nx:=N,ct:=N,bk:=D.nx } σ2 H2):=by
  refine ⟨fun i m σ H => m = xs.length - i ∧ i ≤ xs.length ∧ Pv i σ H,⟨xs.length,by simp,Nat.zero_le _,h0⟩,?_⟩
  rintro i m σ H ⟨rfl,hi,p⟩
  have q:=hl i σ H hi p
  by_cases hlt:i < xs.length
  · refine .inr ⟨⟨xs,xs[i],q,by simp [hlt]⟩,Pv (i + 1),fun σ' H' p' => ⟨xs.length - (i + 1),by omega,rfl,hlt,p'⟩,fun x H' y => ?_⟩
    obtain ⟨e,y⟩:=y
    subst e
    exact hs i x σ _ (y xs q) p
  · have e:i = xs.length:=by omega
    subst e
    exact .inl ⟨⟨xs,q,Nat.le_refl _⟩,hd σ H p⟩
theorem ZcQ {lo:Int} {n:Nat} {g:TG} {tb:TS} {D:Ends} {σ:St} {H:Hp} (Pv:Nat → St → Hp → Prop) (h0:Pv 0 σ H)
    (hs:∀ i σ H,i < n → Pv i σ H → g (.int (lo + i)) σ H fun σ2 H2 => tb { D with nx:=Pv (i + 1),ct:=Pv (i + 1),bk:=D.nx } σ2 H2) (hd:∀ σ H,Pv n σ H → D.nx σ H) :
    ∃ W:Nat → Nat → St → Hp → Prop,(∃ m,W 0 m σ H) ∧ ∀ i m σ H,W i m σ H →
      ((Itr lo n).stop i H ∧ D.nx σ H) ∨ ((Itr lo n).go i H ∧ ∃ N:St → Hp → Prop,(∀ σ' H',N σ' H' → ∃ m',m' < m ∧ W (i + 1) m' σ' H') ∧ ∀ x H',(Itr lo n).yld i H x H' → g x σ H' fun σ2 H2 => tb { D with nx:=N,ct:=N,bk:=D.nx } σ2 H2):=by
  refine ⟨fun i m σ H => m = n - i ∧ i ≤ n ∧ Pv i σ H,⟨n,by simp,Nat.zero_le _,h0⟩,?_⟩
  rintro i m σ H ⟨rfl,hi,p⟩
  by_cases hlt:i < n
  · refine .inr ⟨hlt,Pv (i + 1),fun σ' H' p' => ⟨n - (i + 1),by omega,rfl,hlt,p'⟩,fun x H' y => ?_⟩
    obtain ⟨e,y⟩:=y
    subst e y
    exact hs i σ _ hlt p
  · have e:i = n:=by omega
    subst e
    exact .inl ⟨Nat.le_refl _,hd σ H p⟩
end L2
namespace L2
open PySem PySem.Spec PyProof.Rows
abbrev R2:=V → V → Hp → VK → Prop
def OpR (X:Cx) (f:Value → Value → Sem Value) (r:R2):Prop :=
  ∀ (pins:List (Addr × Obj)) (s:Shared) (σ:St) (H:Hp) (x y:V) (v u:Value) (Q:VK),Inv X pins σ H s → RelV x v → RelV y u → r x y H Q →
    wpAny (model X.prog X.w) X.A (f v u) (EP X pins σ Q) X.xe s
def UnR (X:Cx) (f:Value → Sem Value) (r:V → Hp → VK → Prop):Prop :=
  ∀ (pins:List (Addr × Obj)) (s:Shared) (σ:St) (H:Hp) (x:V) (v:Value) (Q:VK),Inv X pins σ H s → RelV x v → r x H Q →
    wpAny (model X.prog X.w) X.A (f v) (EP X pins σ Q) X.xe s
def CallR (X:Cx) (f:Value) (r:List V → Hp → VK → Prop):Prop :=
  ∀ (pins:List (Addr × Obj)) (s:Shared) (σ:St) (H:Hp) (xs:List V) (us:List Value) (Q:VK),Inv X pins σ H s → Vals xs us → r xs H Q →
    wpAny (model X.prog X.w) X.A (call f us) (EP X pins σ Q) X.xe s
def tOp (r:R2) (ta tb:TE):TE:=fun σ H Q => ta σ H fun x H1 => tb σ H1 fun y H2 => r x y H2 Q
def tUn (r:V → Hp → VK → Prop) (ta:TE):TE:=fun σ H Q => ta σ H fun x H1 => r x H1 Q
def rI (C:Int → Int → Prop) (g:Int → Int → V):R2:=fun x y H Q => ∃ i j,x = .int i ∧ y = .int j ∧ C i j ∧ Q (g i j) H
def rI0 (g:Int → Int → V):R2:=fun x y H Q => ∃ i j,x = .int i ∧ y = .int j ∧ Q (g i j) H
def rU (g:Int → V):V → Hp → VK → Prop:=fun x H Q => ∃ i,x = .int i ∧ Q (g i) H
section
variable {X:Cx} {a b c:Expr} {ta tb tc:TE} {pos:Pos}
theorem Zl9 (ha:PE X a ta) (hb:PE X b tb) {pins:List (Addr × Obj)} {s:Shared} {σ:St} {H:Hp} {R:V → V → Hp → Prop} (I:Inv X pins σ H s)
    (h:ta σ H fun x H1 => tb σ H1 fun y H2 => R x y H2) {Q:Value → Shared → Prop} {f:Value → Value → Sem Value}
    (hf:∀ v u s2 x y H2,Inv X pins σ H2 s2 → RelV x v → RelV y u → R x y H2 → wpAny (model X.prog X.w) X.A (f v u) Q X.xe s2) :
    wpAny (model X.prog X.w) X.A (eval a X.env) (fun v s₁ => wpAny (model X.prog X.w) X.A (eval b X.env) (fun u s₂ => wpAny (model X.prog X.w) X.A (f v u) Q X.xe s₂) X.xe s₁) X.xe s:=by
  refine thn (ha pins s σ H _ I h) fun v s1 ⟨x,H1,I1,r1,q1⟩ => ?_
  refine thn (hb pins s1 σ H1 _ I1 q1) fun u s2 ⟨y,H2,I2,r2,q2⟩ => ?_
  exact hf v u s2 x y H2 I2 r1 r2 q2
theorem Zaj {op:Operator} {r:R2} (ho:OpR X (binaryOp op) r) (ha:PE X a ta) (hb:PE X b tb):PE X (.BinOp a op b pos) (tOp r ta tb):=by
  intro pins s σ H Q I h
  exact wpAny_BinOp (Zl9 ha hb I h fun v u s2 x y H2 I2 rx ry q => ho pins s2 σ H2 x y v u Q I2 rx ry q)
theorem ZeH {op:UnaryOp} {r:V → Hp → VK → Prop} (ho:UnR X (unaryOp op) r) (ha:PE X a ta):PE X (.UnaryOp op a pos) (tUn r ta):=by
  intro pins s σ H Q I h
  exact UnaryOp_ (thn (ha pins s σ H _ I h) fun v s1 ⟨x,H1,I1,r1,q1⟩ => ho pins s1 σ H1 x v Q I1 r1 q1)
theorem opI {f:Value → Value → Sem Value} {C:Int → Int → Prop} {g:Int → Int → Int}
    (rule:∀ (i j:Int) (t u:Tok) (s:Shared) (Q:Value → Shared → Prop) (E:Value → Shared → Prop),C i j → Q (.int (g i j) s.toks) { s with toks:=s.toks + 1 } → wpAny (model X.prog X.w) X.A (f (.int i t) (.int j u)) Q E s) :
    OpR X f (rI C fun i j => .int (g i j)):=by
  intro pins s σ H x y v u Q I rx ry h
  obtain ⟨i,j,rfl,rfl,hc,q⟩:=h
  obtain ⟨t,rfl⟩:=rx
  obtain ⟨t',rfl⟩:=ry
  exact rule i j t t' s _ _ hc ⟨.int (g i j),H,I.tok _,⟨_,rfl⟩,q⟩
theorem ZmB {f:Value → Value → Sem Value} {g:Int → Int → Int}
    (rule:∀ (i j:Int) (t u:Tok) (s:Shared) (Q:Value → Shared → Prop) (E:Value → Shared → Prop),Q (.int (g i j) s.toks) { s with toks:=s.toks + 1 } → wpAny (model X.prog X.w) X.A (f (.int i t) (.int j u)) Q E s) :
    OpR X f (rI0 fun i j => .int (g i j)):=by
  intro pins s σ H x y v u Q I rx ry h
  obtain ⟨i,j,rfl,rfl,q⟩:=h
  obtain ⟨t,rfl⟩:=rx
  obtain ⟨t',rfl⟩:=ry
  exact rule i j t t' s _ _ ⟨.int (g i j),H,I.tok _,⟨_,rfl⟩,q⟩
theorem ZlV {f:Value → Value → Sem Value} {g:Int → Int → Bool}
    (rule:∀ (i j:Int) (t u:Tok) (s:Shared) (Q:Value → Shared → Prop) (E:Value → Shared → Prop),Q (.bool (g i j)) s → wpAny (model X.prog X.w) X.A (f (.int i t) (.int j u)) Q E s) :
    OpR X f (rI0 fun i j => .bl (g i j)):=by
  intro pins s σ H x y v u Q I rx ry h
  obtain ⟨i,j,rfl,rfl,q⟩:=h
  obtain ⟨t,rfl⟩:=rx
  obtain ⟨t',rfl⟩:=ry
  exact rule i j t t' s _ _ ⟨.bl (g i j),H,I,rfl,q⟩
def ZmW (i j:Int):Prop:=0 < j ∧ j < 1073741824
def ZmX (i j:Int):Prop:=0 ≤ j ∧ j ≤ 1000000 ∧ i.natAbs < 2 ^ 64
def CMul (i j:Int):Prop:=(-(2 ^ 64) < i ∧ i < 2 ^ 64) ∨ (-(2 ^ 64) < j ∧ j < 2 ^ 64)
theorem CMul.ok {i j:Int} (h:CMul i j):IntMulOk i j:=by
  rcases h with ⟨h1,h2⟩ | ⟨h1,h2⟩
  · exact .of_left (intBits_le_64 h1 h2)
  · exact .of_right (intBits_le_64 h1 h2)
theorem ZaP:OpR X (binaryOp .Add) (rI0 fun i j => .int (i + j)):=ZmB fun _ _ _ _ _ _ _ q => add_int q
theorem ZbB:OpR X (binaryOp .Sub) (rI0 fun i j => .int (i - j)):=ZmB fun _ _ _ _ _ _ _ q => sub_int q
theorem ZbS:OpR X (binaryOp .Mult) (rI CMul fun i j => .int (i * j)):=opI fun _ _ _ _ _ _ _ hc q => mul_int q hc.ok
theorem ZbN:OpR X (binaryOp .FloorDiv) (rI ZmW fun i j => .int (i / j)):=opI fun i j _ _ _ _ _ hc q => by
  have h1:(0:Int) < j:=hc.1
  have h2:j < 1073741824:=hc.2
  exact floordiv_int (by omega) (by rw [Int.fdiv_eq_ediv_of_nonneg i (by omega)]; exact q) (.inl (PyProof.noPylong_small (by omega)))
theorem Za3:OpR X (binaryOp .Mod) (rI (fun _ j => 0 < j) fun i j => .int (i % j)):=opI fun i j _ _ _ _ _ hc q => by
  have h1:(0:Int) < j:=hc
  exact mod_int' (by omega) (by rw [Int.fmod_eq_emod_of_nonneg i (by omega)]; exact q)
theorem ZaQ:OpR X (binaryOp .Mod) (rI (fun _ j => j ≠ 0) fun i j => .int (i.fmod j)):=opI fun _ _ _ _ _ _ _ hc q => mod_int' hc q
theorem Zlj:OpR X (binaryOp .Pow) (rI ZmX fun i j => .int (i ^ j.toNat)):=opI fun _ _ _ _ _ _ _ hc q => pow_int_small hc.1 hc.2.1 hc.2.2 q
theorem unI {f:Value → Sem Value} {g:Int → Int}
    (rule:∀ (i:Int) (t:Tok) (s:Shared) (Q:Value → Shared → Prop) (E:Value → Shared → Prop),Q (.int (g i) s.toks) { s with toks:=s.toks + 1 } → wpAny (model X.prog X.w) X.A (f (.int i t)) Q E s) :
    UnR X f (rU fun i => .int (g i)):=by
  intro pins s σ H x v Q I rx h
  obtain ⟨i,rfl,q⟩:=h
  obtain ⟨t,rfl⟩:=rx
  exact rule i t s _ _ ⟨.int (g i),H,I.tok _,⟨_,rfl⟩,q⟩
theorem ZcR:UnR X (unaryOp .USub) (rU fun i => .int (-i)):=unI fun _ _ _ _ _ q => neg_int q
end
def ZmC:V → V → Bool
  | .non,.non => true | .non,.int _ => true | .int _,.non => true | .non,.bl _ => true | .bl _,.non => true | .non,.str _ => true | .str _,.non => true
  | .int _,.int _ => true | .bl _,.bl _ => true | .str _,.str _ => true | .byt _,.byt _ => true
  | .int _,.str _ => true | .str _,.int _ => true | .bl _,.str _ => true | .str _,.bl _ => true
  | _,_ => false
def rEq:R2:=fun x y H Q => ZmC x y = true ∧ Q (.bl (decide (x = y))) H
def rNe:R2:=fun x y H Q => ZmC x y = true ∧ Q (.bl (!decide (x = y))) H
theorem ZeI {i j:Int}:decide (V.int i = V.int j) = (i == j):=by
  rw [Bool.eq_iff_iff]
  simp
theorem ZjT {i j:Bool}:decide (V.bl i = V.bl j) = (i == j):=by
  rw [Bool.eq_iff_iff]
  simp
theorem ZhO {i j:Str}:decide (V.str i = V.str j) = (i == j):=by
  rw [Bool.eq_iff_iff]
  simp
theorem ZhP {i j:Array UInt8}:decide (V.byt i = V.byt j) = (i.toList == j.toList):=by
  rw [Bool.eq_iff_iff]
  cases i
  cases j
  simp
section
variable {X:Cx} {a b c:Expr} {ta tb tc:TE} {pos:Pos}
theorem ZaE {pins:List (Addr × Obj)} {σ:St} {H:Hp} {s:Shared} {Q:VK} {k k':Bool} (I:Inv X pins σ H s) (q:Q (.bl k) H) (e:k = k'):EP X pins σ Q (.bool k') s:=by
  subst e
  exact ⟨.bl k,H,I,rfl,q⟩
theorem Zbi:OpR X (compareOp .Eq) rEq:=by
  intro pins s σ H x y v u Q I rx ry h
  obtain ⟨hs,q⟩:=h
  cases x with
  | non =>
    cases rx
    cases y with
    | non => cases ry; exact PySem.EqNone.eq_none_none (ZaE I q (by simp))
    | bl j => cases ry; exact PySem.EqNone.eq_none_bool (ZaE I q (by simp))
    | int j => obtain ⟨t',rfl⟩:=ry; exact PySem.EqNone.eq_none_int (ZaE I q (by simp))
    | str j => obtain ⟨t',rfl⟩:=ry; exact PySem.EqNone.eq_none_str (ZaE I q (by simp))
    | _ => exact absurd (show false = true from hs) Bool.false_ne_true
  | bl i =>
    cases rx
    cases y with
    | non => cases ry; exact PySem.EqNone.eq_bool_none (ZaE I q (by simp))
    | bl j => cases ry; exact eq_bool (ZaE I q ZjT)
    | str j => obtain ⟨t',rfl⟩:=ry; exact PySem.EqMixed.eq_bool_str (ZaE I q (by simp))
    | _ => exact absurd (show false = true from hs) Bool.false_ne_true
  | int i =>
    obtain ⟨t,rfl⟩:=rx
    cases y with
    | non => cases ry; exact PySem.EqNone.eq_int_none (ZaE I q (by simp))
    | int j => obtain ⟨t',rfl⟩:=ry; exact eq_int (ZaE I q ZeI)
    | str j => obtain ⟨t',rfl⟩:=ry; exact PySem.EqMixed.eq_int_str (ZaE I q (by simp))
    | _ => exact absurd (show false = true from hs) Bool.false_ne_true
  | str i =>
    obtain ⟨t,rfl⟩:=rx
    cases y with
    | non => cases ry; exact PySem.EqNone.eq_str_none (ZaE I q (by simp))
    | bl j => cases ry; exact PySem.EqMixed.eq_str_bool (ZaE I q (by simp))
    | int j => obtain ⟨t',rfl⟩:=ry; exact PySem.EqMixed.eq_str_int (ZaE I q (by simp))
    | str j => obtain ⟨t',rfl⟩:=ry; exact eq_str (ZaE I q ZhO)
    | _ => exact absurd (show false = true from hs) Bool.false_ne_true
  | byt i =>
    obtain ⟨t,rfl⟩:=rx
    cases y with
    | byt j => obtain ⟨t',rfl⟩:=ry; exact PySem.W.eq_bytes (ZaE I q ZhP)
    | _ => exact absurd (show false = true from hs) Bool.false_ne_true
  | _ => cases y <;> exact absurd (show false = true from hs) Bool.false_ne_true
theorem ZdG:OpR X (compareOp .NotEq) rNe:=by
  intro pins s σ H x y v u Q I rx ry h
  obtain ⟨hs,q⟩:=h
  cases x with
  | non =>
    cases rx
    cases y with
    | non => cases ry; exact PySem.EqNone.ne_none_none (ZaE I q (by simp))
    | bl j => cases ry; exact PySem.EqNone.ne_none_bool (ZaE I q (by simp))
    | int j => obtain ⟨t',rfl⟩:=ry; exact PySem.EqNone.ne_none_int (ZaE I q (by simp))
    | str j => obtain ⟨t',rfl⟩:=ry; exact PySem.EqNone.ne_none_str (ZaE I q (by simp))
    | _ => exact absurd (show false = true from hs) Bool.false_ne_true
  | bl i =>
    cases rx
    cases y with
    | non => cases ry; exact PySem.EqNone.ne_bool_none (ZaE I q (by simp))
    | bl j => cases ry; exact ne_bool (ZaE I q (congrArg not ZjT))
    | str j => obtain ⟨t',rfl⟩:=ry; exact PySem.EqMixed.ne_bool_str (ZaE I q (by simp))
    | _ => exact absurd (show false = true from hs) Bool.false_ne_true
  | int i =>
    obtain ⟨t,rfl⟩:=rx
    cases y with
    | non => cases ry; exact PySem.EqNone.ne_int_none (ZaE I q (by simp))
    | int j => obtain ⟨t',rfl⟩:=ry; exact ne_int (ZaE I q (congrArg not ZeI))
    | str j => obtain ⟨t',rfl⟩:=ry; exact PySem.EqMixed.ne_int_str (ZaE I q (by simp))
    | _ => exact absurd (show false = true from hs) Bool.false_ne_true
  | str i =>
    obtain ⟨t,rfl⟩:=rx
    cases y with
    | non => cases ry; exact PySem.EqNone.ne_str_none (ZaE I q (by simp))
    | bl j => cases ry; exact PySem.EqMixed.ne_str_bool (ZaE I q (by simp))
    | int j => obtain ⟨t',rfl⟩:=ry; exact PySem.EqMixed.ne_str_int (ZaE I q (by simp))
    | str j => obtain ⟨t',rfl⟩:=ry; exact ne_str (ZaE I q (congrArg not ZhO))
    | _ => exact absurd (show false = true from hs) Bool.false_ne_true
  | byt i =>
    obtain ⟨t,rfl⟩:=rx
    cases y with
    | byt j => obtain ⟨t',rfl⟩:=ry; exact PySem.W.ne_bytes (ZaE I q (congrArg not ZhP))
    | _ => exact absurd (show false = true from hs) Bool.false_ne_true
  | _ => cases y <;> exact absurd (show false = true from hs) Bool.false_ne_true
theorem ZfY:OpR X (compareOp .Lt) (rI0 fun i j => .bl (decide (i < j))):=ZlV fun _ _ _ _ _ _ _ q => lt_int q
theorem Zi9:OpR X (compareOp .LtE) (rI0 fun i j => .bl (decide (i ≤ j))):=ZlV fun _ _ _ _ _ _ _ q => le_int q
theorem ZfZ:OpR X (compareOp .Gt) (rI0 fun i j => .bl (decide (j < i))):=ZlV fun _ _ _ _ _ _ _ q => gt_int q
theorem Zja:OpR X (compareOp .GtE) (rI0 fun i j => .bl (decide (j ≤ i))):=ZlV fun _ _ _ _ _ _ _ q => ge_int q
theorem OpR.or {f:Value → Value → Sem Value} {r r':R2} (h:OpR X f r) (h':OpR X f r'):OpR X f (fun x y H Q => r x y H Q ∨ r' x y H Q):=by
  intro pins s σ H x y v u Q I rx ry q
  rcases q with q | q
  · exact h pins s σ H x y v u Q I rx ry q
  · exact h' pins s σ H x y v u Q I rx ry q
theorem Zan (b:Expr) {op:CmpOp} (h:op ≠ .In:=by decide) (h2:op ≠ .NotIn:=by decide):behindInMarks op b = false:=by
  have e1:(op == CmpOp.In) = false:=by cases op <;> first | rfl | exact absurd rfl h
  have e2:(op == CmpOp.NotIn) = false:=by cases op <;> first | rfl | exact absurd rfl h2
  cases b <;> simp [behindInMarks,e1,e2]
theorem ZaR {op:CmpOp} {r:R2} (ho:OpR X (compareOp op) r) (ha:PE X a ta) (hb:PE X b tb) (hm:behindInMarks op b = false):PE X (.Compare a [op] [b] pos) (tOp r ta tb):=by
  intro pins s σ H Q I h
  exact wpAny_Compare1 (Zl9 ha hb I h fun v u s2 x y H2 I2 rx ry q => ho pins s2 σ H2 x y v u Q I2 rx ry q) hm
def Zma (t:TE):TT:=fun σ H Q => t σ H fun x H' => ∃ k,x = .bl k ∧ Q k H'
theorem Zap {op:CmpOp} {r:R2} (ho:OpR X (compareOp op) r) (ha:PE X a ta) (hb:PE X b tb) (hm:behindInMarks op b = false):PT X (.Compare a [op] [b] pos) (Zma (tOp r ta tb)):=by
  intro pins s σ H Q I h
  refine wpAny_isTrue_Compare1 (thn (ha pins s σ H _ I h) fun v s1 ⟨x,H1,I1,r1,q1⟩ => thn (hb pins s1 σ H1 _ I1 q1) fun u s2 ⟨y,H2,I2,r2,q2⟩ =>
    thn (ho pins s2 σ H2 x y v u _ I2 r1 r2 q2) fun c s3 ⟨z,H3,I3,r3,k,e,q3⟩ => ?_) hm
  subst e
  cases r3
  exact wpAny_truthy_bool ⟨H3,I3,q3⟩
def Zlk (r r':R2) (ta tb tc:TE):TE:=fun σ H Q => ta σ H fun x H1 => tb σ H1 fun y H2 => r x y H2 fun z H3 => ∃ k,z = .bl k ∧
  (if k = true then tc σ H3 fun w' H4 => r' y w' H4 Q else Q (.bl false) H3)
theorem ZgB {op op':CmpOp} {r r':R2} (ho:OpR X (compareOp op) r) (ho':OpR X (compareOp op') r') (ha:PE X a ta) (hb:PE X b tb) (hc:PE X c tc)
    (hm:lastMarks [op,op'] [b,c] = false:=by with_unfolding_all rfl):PE X (.Compare a [op,op'] [b,c] pos) (Zlk r r' ta tb tc):=by
  intro pins s σ H Q I h
  refine Compare_chain (thn (ha pins s σ H _ I h) fun v s1 ⟨x,H1,I1,r1,q1⟩ => chain_link (thn (hb pins s1 σ H1 _ I1 q1) fun u s2 ⟨y,H2,I2,r2,q2⟩ =>
    thn (ho pins s2 σ H2 x y v u _ I2 r1 r2 q2) fun d s3 ⟨z,H3,I3,r3,k,e,q3⟩ => ?_)) hm
  subst e
  cases r3
  refine wpAny_truthy_bool ?_
  cases k with
  | false => exact ite_ff ⟨.bl false,H3,I3,rfl,q3⟩
  | true => exact ite_tt (chain_last (thn (hc pins s3 σ H3 _ I3 q3) fun w' s4 ⟨z',H4,I4,r4,q4⟩ => ho' pins s4 σ H4 y z' u w' Q I4 r2 r4 q4))
theorem ZgC:(sizeLine:Nat) < 2 ^ 63:=by rw [sizeLine_eq]; decide
theorem Zhc {x:V} {us:List Value} (r:Vals [x] us):∃ u,us = [u] ∧ RelV x u:=by
  cases r with
  | cons r1 r2 => cases r2; exact ⟨_,rfl,r1⟩
theorem ZhQ {x y:V} {us:List Value} (r:Vals [x,y] us):∃ u w',us = [u,w'] ∧ RelV x u ∧ RelV y w':=by
  cases r with
  | cons r1 r2 =>
    cases r2 with
    | cons r3 r4 => cases r4; exact ⟨_,_,rfl,r1,r3⟩
theorem ZgD:CallR X (.builtin "abs") (fun xs H Q => ∃ i,xs = [.int i] ∧ Q (.int (if i < 0 then -i else i)) H):=by
  intro pins s σ H xs us Q I r h
  obtain ⟨i,rfl,q⟩:=h
  obtain ⟨u,rfl,t,rfl⟩:=Zhc r
  exact call_abs_int fun u tk => ⟨.int (if i < 0 then -i else i),H,I.tok _,⟨_,rfl⟩,q⟩
theorem Zfj (hc:X.calm = true):CallR X (.builtin "max") (fun xs H Q => ∃ i j,xs = [.int i,.int j] ∧ Q (.int (if j > i then j else i)) H):=by
  intro pins s σ H xs us Q I r h
  obtain ⟨i,j,rfl,q⟩:=h
  obtain ⟨u,w',rfl,⟨t,rfl⟩,⟨t',rfl⟩⟩:=ZhQ r
  refine max_two_ints (I.ok.hd hc) fun h' tk k => ⟨_,H,I.kept k,?_,q⟩
  by_cases hj:j > i
  · rw [if_pos hj,if_pos hj]; exact ⟨_,rfl⟩
  · rw [if_neg hj,if_neg hj]; exact ⟨_,rfl⟩
theorem ZhR (hc:X.calm = true):CallR X (.builtin "min") (fun xs H Q => ∃ i j,xs = [.int i,.int j] ∧ Q (.int (if j < i then j else i)) H):=by
  intro pins s σ H xs us Q I r h
  obtain ⟨i,j,rfl,q⟩:=h
  obtain ⟨u,w',rfl,⟨t,rfl⟩,⟨t',rfl⟩⟩:=ZhQ r
  refine min_two_ints (I.ok.hd hc) fun h' tk k => ⟨_,H,I.kept k,?_,q⟩
  by_cases hj:j < i
  · rw [if_pos hj,if_pos hj]; exact ⟨_,rfl⟩
  · rw [if_neg hj,if_neg hj]; exact ⟨_,rfl⟩
end
end L2
namespace L2
open PySem PySem.Spec PyProof.Rows
structure ObjM (h:Heap) (x dx C:Addr) (mA:Str → Option Value):Prop where
  obj:h.get? x = some (PySem.W.instObj C dx)
  ns:h.Ns1 dx mA
  ne:dx ≠ x
theorem ZhS {h:Heap} {dx:Addr} {mA:Str → Option Value} (n:h.Ns1 dx mA):∃ od,h.get? dx = some od ∧ ∀ name,PySem.W.lookIn name od = some (mA name):=by
  obtain ⟨o,es,ep,ho,hd,hk,_,hm⟩:=n
  refine ⟨o,ho,fun name => ?_⟩
  have e:=hm name
  unfold nsFind findBy at e
  rw [← Array.find?_toList] at e
  unfold PySem.W.lookIn
  rw [hd]
  dsimp only
  split
  · rename_i y q
    rw [q] at e
    exact congrArg some e
  · rename_i q
    rw [q] at e
    have a:es.toList.any (·.refKey) = false:=by
      rw [List.any_eq_false]
      intro y hy
      obtain ⟨z,t,hkey⟩:=hk y (Array.mem_toList_iff.mp hy)
      simp [DictEntry.refKey,hkey]
    have a':¬ es.toList.any (·.refKey) = true:=by rw [a]; exact Bool.false_ne_true
    rw [if_neg a']
    exact congrArg some e
theorem ObjM.look {h:Heap} {x dx C:Addr} {mA:Str → Option Value} (I:ObjM h x dx C mA):∃ od,PySem.W.InstAt h x (PySem.W.instObj C dx) C (some od) ∧ ∀ name,PySem.W.lookIn name od = some (mA name) :=
  let ⟨od,ho,hl⟩:=ZhS I.ns
  ⟨od,⟨I.obj,rfl,rfl,ho⟩,hl⟩
section
variable {prog:Program} {w:World} {A:Around} {E:Value → Shared → Prop} {s:Shared} {K:PySem.W.Frag} {x dx C f:Addr} {mA:Str → Option Value} {name:Str} {v:Value}
theorem Zkm {expr:Bool} {Q:Value → Shared → Prop} (X:K.In s.heap) (I:ObjM s.heap x dx C mA) (hg:PySem.W.plainGet K C name = true) (hh:PySem.W.hasDictIn K C = true)
    (ha:PySem.W.findIn K (.ref C) name = some none) (hv:mA name = some v) (hv':PySem.W.handedIn v = true) (h:Q v { s with toks:=s.toks + 1 }) :
    wpAny (model prog w) A (getAttr (.ref x) name expr) Q E s:=by
  obtain ⟨od,J,hl⟩:=I.look
  exact PySem.W.get_value X J (PySem.W.plainGet_of hg).1 (PySem.W.findObj_own hh ha rfl (by rw [hl,hv])) hv' h
theorem Zjb {pl:Sem Bool} {Q:Value × List Value → Shared → Prop} (X:K.In s.heap) (I:ObjM s.heap x dx C mA) (hg:PySem.W.plainGet K C name = true)
    (hf:PySem.W.findIn K (.ref C) name = some (some (.ref f))) (ht:PySem.W.isFn K (.ref f) = true) (hv:mA name = none) (h:Q (.ref f,[.ref x]) s) :
    wpAny (model prog w) A (getMethod (.ref x) name pl) Q E s:=by
  obtain ⟨od,J,hl⟩:=I.look
  exact PySem.W.method_fn X J (PySem.W.plainGet_of hg).1 (PySem.W.plainGet_of hg).2 hf (beq_iff_eq.mp ht) (by show (PySem.W.lookIn name od).map (·.isSome) = some false; rw [hl,hv]; rfl) h
theorem Zkn {ns:List Str} {Q:Unit → Shared → Prop} (X:K.In s.heap) (I:ObjM s.heap x dx C mA)
    (hs:PySem.W.findIn K (.ref C) "__setattr__" = some (some (.builtin "object.__setattr__"))) (hp:PySem.W.plainOver K C = true) (ht:PySem.W.takerIn K C name = some none) (hh:PySem.W.hasDictIn K C = true)
    (hw:PySem.Within mA ns) (hsz:ns.length ≤ sizeLine)
    (h:∀ h',ObjM h' x dx C (fun y => if y = name then some v else mA y) → Heap.SameBut dx s.heap h' → Q () { s with heap:=h',toks:=s.toks + 2 }) :
    wpAny (model prog w) A (setAttr (.ref x) name v) Q E s:=by
  obtain ⟨od,J,hl⟩:=I.look
  refine PySem.W.set_plain X J hs (PySem.W.osa_open (s:={ s with toks:=s.toks + 1 }) (r:=none) X J hp ht fun b => ?_)
  obtain ⟨cd,hc,hd'⟩:=PySem.W.any_some hh
  have hx:s.heap.get? x = some ⟨.ref C,some dx,.plain,#[]⟩:=I.obj
  refine wpAny_bind (wpAny_pure (wpAny_bind (wpAny_bind (wpAny_loadPart hx (wpAny_bind (PySem.W.Looks.here (s:={ s with toks:=s.toks + 1 }) (PySem.W.looks_clsIn X hc) ?_))))))
  rw [hd']
  refine wpAny_pure (a:=some dx) (wpAny_bind (wpAny_pure (wpAny_bind ?_)))
  refine wpAny_nsSet1 (s:={ s with toks:=s.toks + 1 }) I.ns fun h' hn2 hs2 => ?_
  obtain ⟨oD,esD,epD,hoD,hdD,hcD⟩:=hn2.count (PySem.Within.cons name v hw)
  refine wpAny_bind (wpAny_lookBehind hoD (by rw [hdD]; exact pastItsLine_dict (Nat.le_trans hcD (by rw [List.length_cons]; omega))) ?_)
  exact wpAny_pure (h _ ⟨(hs2.2 _ (Ne.symm I.ne)).trans I.obj,hn2,I.ne⟩ hs2)
theorem Zjc {R:Result → Shared → Prop} {vs:List Value} {kw:List (Str × Value)} (X:K.In s.heap) (hm:PySem.W.makesIn K C = true)
    (hi:PySem.W.findIn K (.ref C) "__init__" = some (some (.ref f))) (hf:PySem.W.typeIn K (.ref f) = some (.type "function"))
    (h:codeAny (model prog w) (A.under (.builtin "type.__call__" ⟨.ref C :: vs,kw⟩)) (.call (.ref f) ⟨.ref (s.heap.objs.size + 1) :: vs,kw⟩) (PySem.W.InitBack (s.heap.objs.size + 1) R)
      { s with heap:=(s.heap.push PySem.W.emptyDict).push (PySem.W.instObj C s.heap.objs.size) }) :
    codeAny (model prog w) A (.call (.ref C) ⟨vs,kw⟩) R s:=by
  obtain ⟨hh,g,d,t,os⟩:=s
  exact PySem.W.make_core (PySem.W.makes_of X hm) (PySem.W.looks_findIn X hi) (fun self => PySem.W.bind_fn X self hf) (.inl rfl) h
theorem ZhT {R:Result → Shared → Prop} (X:K.In s.heap) (hm:PySem.W.makesIn K C = true)
    (hi:PySem.W.findIn K (.ref C) "__init__" = some (some (.builtin "object.__init__")))
    (hb:∀ self,PySem.W.Looks (model prog w) s.heap (bindSpecial (.builtin "object.__init__") self) (.builtin "object.__init__", [self]))
    (h:codeAny (model prog w) (A.under (.builtin "type.__call__" ⟨[.ref C],[]⟩)) (.call (.builtin "object.__init__") ⟨[.ref (s.heap.objs.size + 1)],[]⟩) (PySem.W.InitBack (s.heap.objs.size + 1) R)
      { s with heap:=(s.heap.push PySem.W.emptyDict).push (PySem.W.instObj C s.heap.objs.size) }) :
    codeAny (model prog w) A (.call (.ref C) ⟨[],[]⟩) R s:=by
  obtain ⟨hh,g,d,t,os⟩:=s
  exact PySem.W.make_core (PySem.W.makes_of X hm) (PySem.W.looks_findIn X hi) hb (.inr ⟨rfl,rfl⟩) h
end
def Zfk (f:Str) (v:V):List (Str × V) → List (Str × V)
  | [] => [(f,v)]
  | (g,x) :: r => if g = f then (g,v) :: r else (g,x) :: Zfk f v r
theorem ZbX (f g:Str) (v:V):∀ fs:List (Str × V),(Zfk f v fs).lookup g = if g = f then some v else fs.lookup g
  | [] => by
    show List.lookup g [(f,v)] = _
    by_cases h:g = f
    · have hb:(g == f) = true:=beq_iff_eq.mpr h
      simp only [List.lookup,hb,if_pos h]
    · have hb:(g == f) = false:=beq_eq_false_iff_ne.mpr h
      simp only [List.lookup,hb,if_neg h]
  | (k,x) :: r => by
    have ih:=ZbX f g v r
    rw [show Zfk f v ((k,x) :: r) = (if k = f then (k,v) :: r else (k,x) :: Zfk f v r) from rfl]
    by_cases hk:k = f
    · rw [if_pos hk]
      by_cases h:g = k
      · have hb:(g == k) = true:=beq_iff_eq.mpr h
        simp only [List.lookup,hb,if_pos (h.trans hk)]
      · have hb:(g == k) = false:=beq_eq_false_iff_ne.mpr h
        simp only [List.lookup,hb,if_neg (fun e:g = f => h (e.trans hk.symm))]
    · rw [if_neg hk]
      by_cases h:g = k
      · have hb:(g == k) = true:=beq_iff_eq.mpr h
        simp only [List.lookup,hb,if_neg (fun e:g = f => hk (h.symm.trans e))]
      · have hb:(g == k) = false:=beq_eq_false_iff_ne.mpr h
        simp only [List.lookup,hb]
        exact ih
theorem ZdH (f:Str) (v:V):∀ fs:List (Str × V),f ∈ (Zfk f v fs).map (·.1) ∧ ∀ g,g ∈ fs.map (·.1) → g ∈ (Zfk f v fs).map (·.1)
  | [] => ⟨by simp [Zfk],fun g h => by simp at h⟩
  | (k,x) :: r => by
    obtain ⟨i1,i2⟩:=ZdH f v r
    rw [show Zfk f v ((k,x) :: r) = (if k = f then (k,v) :: r else (k,x) :: Zfk f v r) from rfl]
    by_cases hk:k = f
    · rw [if_pos hk]
      subst hk
      exact ⟨by simp,fun g h => by simpa using h⟩
    · rw [if_neg hk]
      refine ⟨?_,fun g h => ?_⟩
      · rw [List.map_cons]
        exact List.mem_cons_of_mem _ i1
      · rw [List.map_cons] at h ⊢
        rcases List.mem_cons.mp h with e | e
        · exact List.mem_cons.mpr (.inl e)
        · exact List.mem_cons_of_mem _ (i2 g e)
theorem ZdI (f:Str) (v:V):∀ fs:List (Str × V),(Zfk f v fs).length ≤ fs.length + 1
  | [] => by simp [Zfk]
  | (k,x) :: r => by
    have ih:=ZdI f v r
    rw [show Zfk f v ((k,x) :: r) = (if k = f then (k,v) :: r else (k,x) :: Zfk f v r) from rfl]
    by_cases hk:k = f
    · rw [if_pos hk,List.length_cons,List.length_cons]; omega
    · rw [if_neg hk,List.length_cons,List.length_cons]; omega
theorem RelO.some_of {v:V} {o:Option Value} (r:RelO (some v) o):∃ u,o = some u ∧ RelV v u:=by
  cases o with
  | none => exact (show False from r).elim
  | some u => exact ⟨u,rfl,r⟩
theorem RelO.none_of {o:Option Value} (r:RelO none o):o = none:=by
  cases o with
  | none => rfl
  | some u => exact (show False from r).elim
theorem ZhU {v:V} {u:Value} (r:RelV v u):PySem.W.handedIn u = true:=by
  cases v with
  | non => cases (show u = Value.none from r); rfl
  | bl b => cases (show u = Value.bool b from r); rfl
  | int i => obtain ⟨t,e⟩:=(show ∃ t,u = Value.int i t from r); cases e; rfl
  | str x => obtain ⟨t,e⟩:=(show ∃ t,u = Value.str x t from r); cases e; rfl
  | byt b => obtain ⟨t,e⟩:=(show ∃ t,u = Value.bytes b t from r); cases e; rfl
  | flt b => obtain ⟨t,e⟩:=(show ∃ t,u = Value.float b t from r); cases e; rfl
  | ref a => cases (show u = Value.ref a from r); rfl
  | ty n => cases (show u = Value.type n from r); rfl
section
variable {P:Program} {w:World} {H H':Hp} {h h':Heap} {a C dx:Addr} {fs fs':List (Str × V)}
theorem ZdJ (hok:HOk P w H h) (e:H a = some (.ins C dx fs)):∃ mA,ObjM h a dx C mA ∧ (∀ f,RelO (fs.lookup f) (mA f)) ∧ PySem.Within mA (fs.map (·.1)) ∧ fs.length ≤ 1000 ∧ H dx = some (.own a):=by
  obtain ⟨d,z,ne,ob,mA,n,r,q⟩:=(show ObjOk P w H h a (.ins C dx fs) from hok a _ e)
  exact ⟨mA,⟨ob,n,ne⟩,r,q,z,d⟩
end
structure Cls (K:PySem.W.Frag) (C:Addr):Prop where
  pg:PySem.W.plainGet K C Str.empty = true
  hd:PySem.W.hasDictIn K C = true
  po:PySem.W.plainOver K C = true
  sa:PySem.W.findIn K (.ref C) "__setattr__" = some (some (.builtin "object.__setattr__"))
theorem Cls.get {K:PySem.W.Frag} {C:Addr} (c:Cls K C) (f:Str):PySem.W.plainGet K C f = true:=c.pg
def NoAttr (K:PySem.W.Frag) (C:Addr) (f:Str):Prop:=PySem.W.findIn K (.ref C) f = some none
theorem NoAttr.taker {K:PySem.W.Frag} {C:Addr} {f:Str} (n:NoAttr K C f):PySem.W.takerIn K C f = some none:=by
  unfold PySem.W.takerIn
  rw [show PySem.W.findIn K (.ref C) f = some none from n]
  rfl
structure Con (K:PySem.W.Frag) (C:Addr) (f:Str) (v:V) (u:Value):Prop where
  at_:PySem.W.findIn K (.ref C) f = some (some u)
  rel:RelV v u
  get:PySem.W.specialIn K u "__get__" = some none
  cp:PySem.W.copiedNames.contains f = false
structure Meth (K:PySem.W.Frag) (C:Addr) (m:Str) (f:Addr):Prop where
  at_:PySem.W.findIn K (.ref C) m = some (some (.ref f))
  fn:PySem.W.isFn K (.ref f) = true
  kp:PySem.W.keepIn K (.ref f) = true
section
variable {X:Cx} {pins:List (Addr × Obj)} {σ:St} {H:Hp} {s:Shared} {a C dx:Addr} {fs:List (Str × V)} {f:Str} {v:V} {A:Around} {E:Value → Shared → Prop}
theorem Zhd {b:Bool} {Q:Value → Shared → Prop} (I:Inv X pins σ H s) (e:H a = some (.ins C dx fs)) (c:Cls X.K C) (n:NoAttr X.K C f) (l:fs.lookup f = some v)
    (h:∀ u s',Inv X pins σ H s' → RelV v u → Q u s'):wpAny (model X.prog X.w) A (getAttr (.ref a) f b) Q E s:=by
  obtain ⟨mA,O,r,_,_,_⟩:=ZdJ I.hok e
  obtain ⟨u,hu,ru⟩:=RelO.some_of (v:=v) (o:=mA f) (by rw [← l]; exact r f)
  exact Zkm I.kIn O (c.get f) c.hd n hu (ZhU ru) (h u _ (I.tok _) ru)
theorem Zeq {m:Str} {g:Addr} {pl:Sem Bool} {Q:Value × List Value → Shared → Prop} (I:Inv X pins σ H s) (e:H a = some (.ins C dx fs)) (c:Cls X.K C) (k:Meth X.K C m g) (l:fs.lookup m = none)
    (h:Q (.ref g,[.ref a]) s):wpAny (model X.prog X.w) A (getMethod (.ref a) m pl) Q E s:=by
  obtain ⟨mA,O,r,_,_,_⟩:=ZdJ I.hok e
  have hn:mA m = none:=RelO.none_of (by rw [← l]; exact r m)
  exact Zjb I.kIn O (c.get m) k.at_ k.fn hn h
theorem Zhe {y:V} {u:Value} {Q:Unit → Shared → Prop} (I:Inv X pins σ H s) (e:H a = some (.ins C dx fs)) (c:Cls X.K C) (n:NoAttr X.K C f) (hl:fs.length < 1000) (ry:RelV y u)
    (h:∀ s',Inv X pins σ (upd H a (.ins C dx (Zfk f y fs))) s' → Q () s'):wpAny (model X.prog X.w) A (setAttr (.ref a) f u) Q E s:=by
  obtain ⟨mA,O,r,wi,_,ho⟩:=ZdJ I.hok e
  have hz:(fs.map (·.1)).length ≤ sizeLine:=by rw [List.length_map,sizeLine_eq]; omega
  refine Zkn I.kIn O c.sa c.po n.taker c.hd wi hz fun h' O' sb => h _ ?_
  have hd:∃ o,h'.get? dx = some o:=let ⟨o,_,_,e',_⟩:=O'.ns; ⟨o,e'⟩
  refine I.write (x:=a) (e:=dx) (by rw [e]; exact True.intro) (.inr ho) (fun b q hb z => (sb.2 b hb).trans z) hd ?_
  refine ⟨by rw [Zat O.ne]; exact ho,?_,O.ne,O'.obj,_,O'.ns,fun g => ?_,fun g hg => ?_⟩
  · have:=ZdI f y fs; omega
  · show RelO ((Zfk f y fs).lookup g) (if g = f then some u else mA g)
    rw [ZbX]
    by_cases q:g = f
    · rw [if_pos q,if_pos q]; exact ry
    · rw [if_neg q,if_neg q]; exact r g
  · by_cases q:g = f
    · rw [q]; exact (ZdH f y fs).1
    · refine (ZdH f y fs).2 g (wi g fun z => hg ?_)
      show (if g = f then some u else mA g) = none
      rw [if_neg q]; exact z
theorem Inv.made (I:Inv X pins σ H s):Inv X pins σ (upd (upd H s.heap.objs.size (.own (s.heap.objs.size + 1))) (s.heap.objs.size + 1) (.ins C s.heap.objs.size []))
    { s with heap:=(s.heap.push PySem.W.emptyDict).push (PySem.W.instObj C s.heap.objs.size) }:=by
  have e1:(s.heap.push PySem.W.emptyDict).get? s.heap.objs.size = some PySem.W.emptyDict:=Heap.get?_push_size s.heap rfl
  have e2:((s.heap.push PySem.W.emptyDict).push (PySem.W.instObj C s.heap.objs.size)).get? (s.heap.objs.size + 1) = some (PySem.W.instObj C s.heap.objs.size):=by
    have:=Heap.get?_push_size (s.heap.push PySem.W.emptyDict) (o:=PySem.W.instObj C s.heap.objs.size) rfl
    rwa [Heap.size_push] at this
  have e3:(s.heap.push PySem.W.emptyDict).Ns s.heap.objs.size (fun _ => none):=⟨PySem.W.emptyDict,#[],_,e1,rfl,(fun e he => absurd he (by simp)),fun _ => rfl⟩
  have I1:=I.laid (a:=s.heap.objs.size) (o:=.own (s.heap.objs.size + 1)) (h':=s.heap.push PySem.W.emptyDict) (t':=s.toks) (fun b u q => Heap.get?_push_of_some _ q) (Nat.le_refl _) ⟨_,e1⟩
  refine I1.laid (a:=s.heap.objs.size + 1) (o:=.ins C s.heap.objs.size []) (t':=s.toks) (fun b u q => Heap.get?_push_of_some _ q) (Nat.le_of_eq (Heap.size_push _ _)) ?_
  have ne:s.heap.objs.size ≠ s.heap.objs.size + 1:=Nat.ne_of_lt (Nat.lt_succ_self _)
  refine ⟨by rw [Zat ne,Zaf],Nat.zero_le _,ne,e2,fun _ => none,(Heap.Ns1.of_empty e3).at fun o q => Heap.get?_push_of_some _ q,fun _ => True.intro,fun y hy => absurd rfl hy⟩
theorem Zko {prog:Program} {w:World} {env:Env} {e:Expr} {f:Str} {pos:Pos} {s:Shared} {Q:Value → Shared → Prop} (hb:attributeBase e f env (eval e env) = eval e env)
    (h:wpAny (model prog w) A (eval e env) (fun o s₁ => wpAny (model prog w) A (getAttr o f true) Q E s₁) E s):wpAny (model prog w) A (eval (.Attribute e f pos) env) Q E s :=
  Attribute_any_ h (by rw [arm_eval_Attribute,hb])
end
def ZmD (K:PySem.W.Frag) (ta:TE) (f:Str):TE:=fun σ H Q => ta σ H fun x H1 => ∃ a C dx fs v,x = .ref a ∧ H1 a = some (.ins C dx fs) ∧ Cls K C ∧ NoAttr K C f ∧ fs.lookup f = some v ∧ Q v H1
def ZmY (K:PySem.W.Frag) (ta tv:TE) (f:Str):TS:=fun D σ H => tv σ H fun y H1 => ta σ H1 fun x H2 => ∃ a C dx fs,x = .ref a ∧ H2 a = some (.ins C dx fs) ∧ Cls K C ∧ NoAttr K C f ∧ fs.length < 1000 ∧
  D.nx σ (upd H2 a (.ins C dx (Zfk f y fs)))
section
variable {X:Cx} {o e value:Expr} {f:Str} {pos pos' tpos:Pos} {ta tv:TE}
theorem Zbj (he:PE X e ta) (hb:attributeBase e f X.env (eval e X.env) = eval e X.env):PE X (.Attribute e f pos) (ZmD X.K ta f):=by
  intro pins s σ H Q I h
  refine Zko hb (thn (he pins s σ H _ I h) fun u s1 ⟨x,H1,I1,rx,a,C,dx,fs,v,ex,ea,c,n,l,q⟩ => ?_)
  subst ex
  obtain rfl:u = Value.ref a:=rx
  exact Zhd I1 ea c n l fun u' s2 I2 ru => ⟨v,H1,I2,ru,q⟩
theorem ZjU (ha:PE X o ta) (hv:PE X value tv) (hs:swapsWith value (some (.Attribute o f pos')) pos.line X.env = pure false):PS X (.Assign [.Attribute o f pos'] value pos) (ZmY X.K ta tv f):=by
  intro pins s σ H D I h
  refine plainObj_wpAny_Assign_Attribute (thn (hv pins s σ H _ I h) fun u s1 ⟨y,H1,I1,ry,q⟩ => thn (ha pins s1 σ H1 _ I1 q) fun ov s2 ⟨x,H2,I2,rx,a,C,dx,fs,ex,ea,c,n,l,q2⟩ => ?_) hs
  subst ex
  obtain rfl:ov = Value.ref a:=rx
  exact Zhe I2 ea c n l ry fun s3 I3 => ⟨σ,_,I3,q2⟩
end
section
variable {X:Cx} {pins:List (Addr × Obj)} {σ:St} {H:Hp} {s:Shared} {A:Around} {E:Value → Shared → Prop} {Q:Value → Shared → Prop} {c:Value} {b:Bool}
inductive TyOf (K:PySem.W.Frag) (H:Hp):V → Value → Prop where
  | non:TyOf K H .non (.type "NoneType")
  | bl (x:Bool):TyOf K H (.bl x) (.type "bool")
  | int (i:Int):TyOf K H (.int i) (.type "int")
  | str (x:Str):TyOf K H (.str x) (.type "str")
  | flt (x:UInt64):TyOf K H (.flt x) (.type "float")
  | lst {a:Addr} {xs:List V} (e:H a = some (.lst xs)):TyOf K H (.ref a) (.type "list")
  | frz {a:Addr} {o:Obj} {xs:List V} (e:H a = some (.frz o (.lst xs))):TyOf K H (.ref a) (.type "list")
  | tup {a:Addr} {xs:List V} (e:H a = some (.tup xs)):TyOf K H (.ref a) (.type "tuple")
  | dK {a:Addr} {kvs:List (Key × V)} (e:H a = some (.dK kvs)):TyOf K H (.ref a) (.type "dict")
  | dT {a:Addr} {kvs:List (List Key × V)} (e:H a = some (.dT kvs)):TyOf K H (.ref a) (.type "dict")
  | ins {a C dx:Addr} {fs:List (Str × V)} (e:H a = some (.ins C dx fs)) (cl:Cls K C) (ha:PySem.W.findIn K (.ref C) "__class__" = some (some (.builtin "object.__class__")))
      (hn:PySem.W.specialIn K (.builtin "object.__class__") "__get__" = some (some (.builtin "getset_descriptor.__get__"))) (htk:PySem.W.takesIn K (.builtin "object.__class__") = some true)
      (hm:PySem.W.mroIn K C (.type "object") = some true):TyOf K H (.ref a) (.ref C)
theorem ZhV {x:V} {u t:Value} (I:Inv X pins σ H s) (rx:RelV x u) (ty:TyOf X.K H x t) (e:PySem.W.kitOne X.K t c = some b) (h:∀ tk,Q (.bool b) { s with toks:=tk }) :
    wpAny (model X.prog X.w) A (call (.builtin "isinstance") [u,c]) Q E s:=by
  cases ty with
  | non => cases (show u = Value.none from rx); exact PySem.W.kia_one PySem.W.kitx_none I.kIn True.intro e (fun z => nomatch z) h
  | bl y => cases (show u = Value.bool y from rx); exact PySem.W.kia_one PySem.W.kitx_bool I.kIn True.intro e (fun z => nomatch z) h
  | int i => obtain ⟨t,q⟩:=(show ∃ t,u = Value.int i t from rx); cases q; exact PySem.W.kia_one PySem.W.kitx_int I.kIn True.intro e (fun z => nomatch z) h
  | str y => obtain ⟨t,q⟩:=(show ∃ t,u = Value.str y t from rx); cases q; exact PySem.W.kia_one PySem.W.kitx_str I.kIn True.intro e (fun z => nomatch z) h
  | flt y => obtain ⟨t,q⟩:=(show ∃ t,u = Value.float y t from rx); cases q; exact PySem.W.kia_one PySem.W.kitx_float I.kIn True.intro e (fun z => nomatch z) h
  | @lst a xs ea =>
    cases (show u = Value.ref a from rx)
    obtain ⟨_,_,n,_,h1⟩:=(show ObjOk X.prog X.w H s.heap a (.lst xs) from I.hok a _ ea)
    exact PySem.W.kia_one PySem.W.kitx_list I.kIn ⟨_,h1,rfl⟩ e (fun z => nomatch z) h
  | @frz a ob xs ea =>
    cases (show u = Value.ref a from rx)
    obtain ⟨_,_,_,n,_,h1⟩:=(show ObjOk X.prog X.w H s.heap a (.frz ob (.lst xs)) from I.hok a _ ea)
    exact PySem.W.kia_one PySem.W.kitx_list I.kIn ⟨_,h1,rfl⟩ e (fun z => nomatch z) h
  | @tup a xs ea =>
    cases (show u = Value.ref a from rx)
    obtain ⟨_,_,_,p⟩:=(show ObjOk X.prog X.w H s.heap a (.tup xs) from I.hok a _ ea)
    obtain ⟨o,h1,h2,_⟩:=p
    exact PySem.W.kia_one PySem.W.kitx_tuple I.kIn ⟨o,h1,h2⟩ e (fun z => nomatch z) h
  | @dK a kvs ea =>
    cases (show u = Value.ref a from rx)
    obtain ⟨_,_,vs,_,p⟩:=(show ObjOk X.prog X.w H s.heap a (.dK kvs) from I.hok a _ ea)
    obtain ⟨o,es,ep,h1,h2,_⟩:=p
    exact PySem.W.kia_one PySem.W.kitx_dict I.kIn ⟨o,h1,h2.1⟩ e (fun z => nomatch z) h
  | @dT a kvs ea =>
    cases (show u = Value.ref a from rx)
    obtain ⟨_,_,xs,_,o,es,ep,h1,h2,_⟩:=(show ObjOk X.prog X.w H s.heap a (.dT kvs) from I.hok a _ ea)
    exact PySem.W.kia_one PySem.W.kitx_dict I.kIn ⟨o,h1,h2.1⟩ e (fun z => nomatch z) h
  | @ins a C dx fs ea cl ha hn htk hm =>
    cases (show u = Value.ref a from rx)
    obtain ⟨mA,O,_⟩:=ZdJ I.hok ea
    obtain ⟨od,J,_⟩:=O.look
    exact PySem.W.kia_one (PySem.W.kitx_own (cl.get _) cl.hd ha hn htk hm) I.kIn J e (fun z => nomatch z) h
end
end L2
namespace L2
open PySem PySem.Spec PyProof.Rows
structure Room (k:Nat) (A:Around):Prop where
  hd:A.handled = none
  dp:A.depth + 3 * k + 5 < recursionLimit
  un:A.units + 16 * k + 200 < cLine
theorem Room.mono {j k:Nat} {A:Around} (r:Room k A) (h:j ≤ k):Room j A:=⟨r.hd,by have:=r.dp; omega,by have:=r.un; omega⟩
theorem Room.deeper {k:Nat} {A:Around} (r:Room (k + 1) A) (env:Env):Room k (A.deeper env) :=
  ⟨r.hd,by have:=r.dp; show A.depth + 1 + 3 * k + 5 < _; omega,by have:=r.un; show A.units + 3 + 16 * k + 200 < _; omega⟩
theorem Room.in1 {k:Nat} {A:Around} (r:Room (k + 1) A):Room k A.in1 :=
  ⟨r.hd,by have:=r.dp; show A.depth + 3 * k + 5 < _; omega,by have:=r.un; show A.units + 1 + 16 * k + 200 < _; omega⟩
theorem Zhf {A:Around} {C:Addr} {us:List Value} {kw:List (Str × Value)}:(A.under (.builtin "type.__call__" ⟨.ref C :: us,kw⟩)).depth = A.depth + 1:=by
  first | rfl | simp [Around.under,Code.weight,Code.isCreation,Code.isGuard,Code.isCaller,Code.frames,Code.isFrame,guardIds]
theorem Zhg {A:Around} {C:Addr} {us:List Value} {kw:List (Str × Value)}:(A.under (.builtin "type.__call__" ⟨.ref C :: us,kw⟩)).units = A.units + 1:=by
  first | rfl | simp [Around.under,Code.cUnits,Code.frames,Code.isFrame]
theorem Room.make {k:Nat} {A:Around} (r:Room (k + 1) A) (C:Addr) (us:List Value) (kw:List (Str × Value)):Room k (A.under (.builtin "type.__call__" ⟨.ref C :: us,kw⟩)) :=
  ⟨r.hd,by have:=r.dp; rw [Zhf]; omega,by have:=r.un; rw [Zhg]; omega⟩
theorem Room.depth {k:Nat} {A:Around} (r:Room k A):A.depth < recursionLimit:=by have:=r.dp; omega
theorem Room.units {k:Nat} {A:Around} (r:Room k A):A.units + 64 < cLine:=by have:=r.un; omega
def ZlW:TA:=fun _ H Q => Q [] H
def Zmb (ta:TE) (tr:TA):TA:=fun σ H Q => ta σ H fun x H1 => tr σ H1 fun xs H2 => Q (x :: xs) H2
section
variable {X:Cx} {e:Expr} {es:List Expr} {te:TE} {t:TA} {pos:Pos}
theorem Zab:PA X [] ZlW:=fun _ _ _ _ H Q I h => Calls.spliced_nil ⟨[],H,I,.nil,h⟩
theorem Zaa (ha:PE X e te) (hr:PA X es t) (hs:starEach (e :: es) X.env = (false,eval e X.env) :: starEach es X.env:=by rfl):PA X (e :: es) (Zmb te t):=by
  intro pos pins s σ H Q I h
  rw [hs]
  show wpAny _ _ (spliced ((false,eval e X.env) :: backTo pos (starEach es X.env))) _ _ s
  refine Calls.spliced_cons (thn (ha pins s σ H _ I h) fun u s1 ⟨x,H1,I1,r1,q1⟩ => ?_)
  exact thn (hr pos pins s1 σ H1 _ I1 q1) fun us s2 ⟨xs,H2,I2,r2,q2⟩ => ⟨x :: xs,H2,I2,.cons r1 r2,q2⟩
def ZmZ (t:TA):TE:=fun σ H Q => t σ H fun xs H1 => xs.length ≤ sizeLine ∧ ∀ p,H1 p = none → Q (.ref p) (upd H1 p (.tup xs))
def Zm0 (t:TA):TE:=fun σ H Q => t σ H fun xs H1 => xs.length ≤ sizeLine ∧ ∀ p,H1 p = none → Q (.ref p) (upd H1 p (.lst xs))
theorem Zbs {x1} (h:PA X es t):PE X (.Tuple es x1 pos) (ZmZ t):=by
  intro pins s σ H Q I hq
  refine wpAny_Tuple_spliced (thn (h pos pins s σ H _ I hq) fun us s1 ⟨xs,H1,I1,r,z,q⟩ => ⟨by rw [← r.length]; exact z,?_⟩)
  have hf:H1 s1.heap.objs.size = none:=I1.hok.fresh (Nat.le_refl _)
  refine ⟨.ref s1.heap.objs.size,upd H1 s1.heap.objs.size (.tup xs),I1.laid (t':=s1.toks) (fun b u e => Heap.get?_push_of_some _ e) (Nat.le_refl _) ?_,rfl,q _ hf⟩
  exact ⟨z,us,r,⟨_,Heap.get?_push_size _ rfl,rfl,_,rfl⟩⟩
theorem ZaJ (h:PA X es t):PE X (.List es pos) (Zm0 t):=by
  intro pins s σ H Q I hq
  refine wpAny_List_spliced (thn (h pos pins s σ H _ I hq) fun us s1 ⟨xs,H1,I1,r,z,q⟩ => ⟨by rw [← r.length]; exact z,?_⟩)
  have hf:H1 s1.heap.objs.size = none:=I1.hok.fresh (Nat.le_refl _)
  refine ⟨.ref s1.heap.objs.size,upd H1 s1.heap.objs.size (.lst xs),I1.laid (t':=s1.toks) (fun b u e => Heap.get?_push_of_some _ e) (Nat.le_refl _) ?_,rfl,q _ hf⟩
  exact ⟨z,us,0,r,Heap.get?_push_size _ rfl⟩
end
abbrev Sp:=List V → Hp → VK → XK → Prop
abbrev CXT:=List Env → Hp → Shared → XK → Value → Shared → Prop
structure Env0 (P:Program) (w:World) (K:PySem.W.Frag) (mg:Str → Option Value) (base:Heap) (A:Around) (outer:List Env) (s:Shared) (H:Hp):Prop where
  frames:A.frames = some outer
  mod:Mod K mg base
  bs:∀ b o,base.get? b = some o → s.heap.get? b = some o ∧ H b = none
  bsz:base.objs.size ≤ s.heap.objs.size
  funs:s.heap.FunFrames base outer
  frf:∀ b ∈ frs outer,H b = none
  hok:HOk P w H s.heap
  bare:AllBare s.gens
def CE (outer:List Env) (P:Program) (w:World) (H:Hp) (s:Shared) (Q:VK) (u:Value) (s':Shared):Prop :=
  ∃ v H',s'.os = s.os ∧ AllBare s'.gens ∧ Un (frs outer) [] H H' s.heap s'.heap ∧ HOk P w H' s'.heap ∧ RelV v u ∧ Q v H'
def CR (CX:CXT) (outer:List Env) (P:Program) (w:World) (H:Hp) (s:Shared) (Q:VK) (E:XK) (r:Result) (s':Shared):Prop :=
  match r with
  | .ok (.ret u) => CE outer P w H s Q u s'
  | .ok _ => False
  | .error e => CX outer H s E e s'
structure FnOk (P:Program) (w:World) (K:PySem.W.Frag) (mg:Str → Option Value) (base:Heap) (CX:CXT) (k:Nat) (f:Addr) (fd:FuncData) (ps:List Str) (sp:Sp):Prop where
  len:∀ vs H Q E,sp vs H Q E → vs.length = ps.length
  run:∀ (A:Around) (outer:List Env) (s:Shared) (H:Hp) (args:Args) (us:List Value) (vs:List V) (Q:VK) (E:XK),Room k A → Env0 P w K mg base A outer s H → BindsTo s fd args (ps.zip us) → Vals vs us → sp vs H Q E →
    codeAny (model P w) A (.call (.ref f) args) (CR CX outer P w H s Q E) s
theorem FnOk.mono {P:Program} {w:World} {K:PySem.W.Frag} {mg:Str → Option Value} {base:Heap} {CX:CXT} {j k:Nat} {f:Addr} {fd:FuncData} {ps:List Str} {sp:Sp} (F:FnOk P w K mg base CX j f fd ps sp) (h:j ≤ k) :
    FnOk P w K mg base CX k f fd ps sp:=⟨F.len,fun A outer s H args us vs Q E hr => F.run A outer s H args us vs Q E (hr.mono h)⟩
theorem FnOk.imp {P:Program} {w:World} {K:PySem.W.Frag} {mg:Str → Option Value} {base:Heap} {CX:CXT} {k:Nat} {f:Addr} {fd:FuncData} {ps:List Str} {sp sp':Sp} (F:FnOk P w K mg base CX k f fd ps sp)
    (h:∀ vs H Q E,sp' vs H Q E → sp vs H Q E):FnOk P w K mg base CX k f fd ps sp' :=
  ⟨fun vs H Q E q => F.len vs H Q E (h _ _ _ _ q),fun A outer s H args us vs Q E hr he hb hv hs => F.run A outer s H args us vs Q E hr he hb hv (h _ _ _ _ hs)⟩
theorem Env0.make {P:Program} {w:World} {K:PySem.W.Frag} {mg:Str → Option Value} {base:Heap} {A:Around} {outer:List Env} {s:Shared} {H:Hp} (e:Env0 P w K mg base A outer s H) (C:Addr) (us:List Value) (kw:List (Str × Value)) :
    Env0 P w K mg base (A.under (.builtin "type.__call__" ⟨.ref C :: us,kw⟩)) outer s H:=⟨by first | exact e.frames | (simpa [Around.under,Code.envs,Code.isFrame,pushEnvs] using e.frames),e.mod,e.bs,e.bsz,e.funs,e.frf,e.hok,e.bare⟩
theorem Env0.in1 {P:Program} {w:World} {K:PySem.W.Frag} {mg:Str → Option Value} {base:Heap} {A:Around} {outer:List Env} {s:Shared} {H:Hp} (e:Env0 P w K mg base A outer s H) :
    Env0 P w K mg base A.in1 outer s H:=⟨e.frames,e.mod,e.bs,e.bsz,e.funs,e.frf,e.hok,e.bare⟩
section
variable {X:Cx} {pins:List (Addr × Obj)} {σ:St} {H:Hp} {s s':Shared}
theorem Inv.env0 (I:Inv X pins σ H s):Env0 X.prog X.w X.K X.mg X.base X.A X.stack s H :=
  ⟨I.ok.frames,I.ok.mod,I.bs,Nat.le_trans I.ok.bsz I.sz,I.stack,I.stkFree,I.hok,I.bare⟩
theorem Inv.after {Q:VK} {u:Value} (I:Inv X pins σ H s) (h:CE X.stack X.prog X.w H s Q u s'):EP X pins σ Q u s':=by
  obtain ⟨v,H',os,bare,un,hok,r,q⟩:=h
  obtain ⟨hh,g,d,t,os'⟩:=s'
  obtain rfl:os' = s.os:=os
  exact ⟨v,H',I.call (h':=hh) (g':=g) (d':=d) (t':=t) (ch:=[]) un hok bare (fun b z => absurd z (by simp)),r,q⟩
end
def Zll (sp:Sp) (dvs:List V) (E:XK) (t:TA):TE:=fun σ H Q => t σ H fun vs H1 => sp (vs ++ dvs) H1 Q E
def Zlm (C:Addr) (sp:Sp) (dvs:List V) (E:XK) (t:TA):TE:=fun σ H Q => t σ H fun vs H1 => ∀ x dx,H1 x = none → H1 dx = none → dx ≠ x →
  sp (.ref x :: (vs ++ dvs)) (upd (upd H1 dx (.own x)) x (.ins C dx [])) (fun v H2 => v = .non ∧ Q (.ref x) H2) E
def Binds (K:PySem.W.Frag) (fd:FuncData) (ps:List Str) (ds:List Value):Prop :=
  ∀ (s:Shared) (us:List Value),K.In s.heap → (us ++ ds).length = ps.length → BindsTo s fd ⟨us,[]⟩ (ps.zip (us ++ ds))
theorem Binds.all {K:PySem.W.Frag} {fd:FuncData} {ps:List Str} (h:∀ us:List Value,us.length = ps.length → bindArgs fd ⟨us,[]⟩ = pure (ps.zip us)):Binds K fd ps []:=fun s us _ hl => by
  rw [List.append_nil] at hl ⊢
  exact .of_eq (h us hl)
def Zfl (CX:CXT) (X:Cx) (E:XK):Prop:=∀ (pins:List (Addr × Obj)) (σ:St) (H:Hp) (s:Shared) (e:Value) (s':Shared),Inv X pins σ H s → CX X.stack H s E e s' → X.xe e s'
section
variable {X:Cx} {CX:CXT} {k:Nat} {f C:Addr} {fd:FuncData} {ps:List Str} {sp:Sp} {dvs:List V} {ds:List Value} {E:XK} {x m:Str} {p pos apos:Pos} {e o:Expr} {es:List Expr} {ta:TE} {t:TA}
theorem ZjV {pins:List (Addr × Obj)} {σ:St} {H:Hp} {s:Shared} {Q:VK} {us:List Value} {vs:List V} (F:FnOk X.prog X.w X.K X.mg X.base CX k f fd ps sp) (hr:Room k X.A) (hb:Binds X.K fd ps ds) (hd:Vals dvs ds) (hx:Zfl CX X E)
    (I:Inv X pins σ H s) (r:Vals vs us) (h:sp (vs ++ dvs) H Q E):wpAny (model X.prog X.w) X.A (call (.ref f) us) (EP X pins σ Q) X.xe s:=by
  have r2:Vals (vs ++ dvs) (us ++ ds):=r.append hd
  have hl:(us ++ ds).length = ps.length:=by rw [← r2.length]; exact F.len _ _ _ _ h
  refine wpAny_call (codeAny_mono (F.run X.A X.stack s H ⟨us,[]⟩ (us ++ ds) (vs ++ dvs) Q E hr I.env0 (hb s us I.kIn hl) r2 h) fun r s' hq => ?_)
  cases r with
  | error e => exact hx pins σ H s e s' I hq
  | ok fl =>
    cases fl with
    | ret u => exact I.after hq
    | next => exact False.elim hq
    | brk => exact False.elim hq
    | cont => exact False.elim hq
theorem Zkp (F:FnOk X.prog X.w X.K X.mg X.base CX k f fd ps sp) (hr:Room k X.A) (hg:Gl X x) (hm:X.mg x = some (.ref f)) (hk:PySem.W.keepIn X.K (.ref f) = true) (hb:Binds X.K fd ps ds) (hd:Vals dvs ds) (hx:Zfl CX X E)
    (ha:PA X (e :: es) t) (hdb:(x == ("__debug__" : Str)) = false:=by decide) (he:starEach (e :: es) X.env = (false,eval e X.env) :: starEach es X.env:=by rfl) (hpl:(backTo pos (starEach es X.env)).any (·.1) = false:=by rfl) :
    PE X (.Call (.Name x p) (e :: es) [] pos) (Zll sp dvs E t):=by
  intro pins s σ H Q I h
  refine wpAny_Call_Name_kw (Zde I hg hm ?_ hdb)
  refine PySem.W.callWith_K (h₀:=X.base) I.ok.mod.kin hk (thn (ha pos pins s σ H _ I h) fun us s1 ⟨vs,H1,I1,r,q⟩ => ⟨I1.kIn,?_⟩) he hpl
  exact ZjV F hr hb hd hx I1 r q
structure Mk (K:PySem.W.Frag) (C f:Addr):Prop where
  makes:PySem.W.makesIn K C = true
  init:PySem.W.findIn K (.ref C) "__init__" = some (some (.ref f))
  fn:PySem.W.isFn K (.ref f) = true
  kp:PySem.W.keepIn K (.ref C) = true
theorem Zjd {pins:List (Addr × Obj)} {σ:St} {H:Hp} {s:Shared} {Q:VK} {us:List Value} {vs:List V} (M:Mk X.K C f) (F:FnOk X.prog X.w X.K X.mg X.base CX k f fd ps sp) (hr:Room (k + 1) X.A) (hb:Binds X.K fd ps ds) (hd:Vals dvs ds)
    (hx:Zfl CX X E) (I:Inv X pins σ H s) (r:Vals vs us)
    (h:∀ x dx,H x = none → H dx = none → dx ≠ x → sp (.ref x :: (vs ++ dvs)) (upd (upd H dx (.own x)) x (.ins C dx [])) (fun v H2 => v = .non ∧ Q (.ref x) H2) E) :
    wpAny (model X.prog X.w) X.A (call (.ref C) us) (EP X pins σ Q) X.xe s:=by
  have hq:=h (s.heap.objs.size + 1) s.heap.objs.size (I.hok.fresh (Nat.le_succ _)) (I.hok.fresh (Nat.le_refl _)) (Nat.ne_of_lt (Nat.lt_succ_self _))
  have I2:=Inv.made (C:=C) I
  have r2:Vals (V.ref (s.heap.objs.size + 1) :: (vs ++ dvs)) (Value.ref (s.heap.objs.size + 1) :: (us ++ ds)):=.cons rfl (r.append hd)
  have hl:(Value.ref (s.heap.objs.size + 1) :: us ++ ds).length = ps.length:=by
    have e:=r2.length
    rw [F.len _ _ _ _ hq] at e
    exact e.symm
  refine wpAny_call (Zjc (f:=f) I.kIn M.makes M.init (beq_iff_eq.mp M.fn) (codeAny_mono (F.run _ X.stack _ _ ⟨Value.ref (s.heap.objs.size + 1) :: us,[]⟩ (Value.ref (s.heap.objs.size + 1) :: (us ++ ds)) _ _ E (hr.make C us [])
    (I2.env0.make C us []) (hb _ (Value.ref (s.heap.objs.size + 1) :: us) I2.kIn hl) r2 hq) fun r s' hq' => ?_))
  cases r with
  | error e => exact hx pins σ _ _ e s' I2 hq'
  | ok fl =>
    cases fl with
    | ret u =>
      obtain ⟨v,H',I3,rv,ev,q3⟩:=I2.after hq'
      subst ev
      exact ⟨rv,⟨V.ref (s.heap.objs.size + 1),H',I3,rfl,q3⟩⟩
    | next => exact False.elim hq'
    | brk => exact False.elim hq'
    | cont => exact False.elim hq'
theorem Zkq (M:Mk X.K C f) (F:FnOk X.prog X.w X.K X.mg X.base CX k f fd ps sp) (hr:Room (k + 1) X.A) (hg:Gl X x) (hm:X.mg x = some (.ref C)) (hb:Binds X.K fd ps ds) (hd:Vals dvs ds) (hx:Zfl CX X E)
    (ha:PA X (e :: es) t) (hdb:(x == ("__debug__" : Str)) = false:=by decide) (he:starEach (e :: es) X.env = (false,eval e X.env) :: starEach es X.env:=by rfl) (hpl:(backTo pos (starEach es X.env)).any (·.1) = false:=by rfl) :
    PE X (.Call (.Name x p) (e :: es) [] pos) (Zlm C sp dvs E t):=by
  intro pins s σ H Q I h
  refine wpAny_Call_Name_kw (Zde I hg hm ?_ hdb)
  refine PySem.W.callWith_K (h₀:=X.base) I.ok.mod.kin M.kp (thn (ha pos pins s σ H _ I h) fun us s1 ⟨vs,H1,I1,r,q⟩ => ⟨I1.kIn,?_⟩) he hpl
  exact Zjd M F hr hb hd hx I1 r q
end
def PK (X:Cx) (kws:List Keyword) (t:TA):Prop :=
  ∀ (pos:Pos) (pins:List (Addr × Obj)) (s:Shared) (σ:St) (H:Hp) (Q:List V → Hp → Prop),Inv X pins σ H s → t σ H Q → wpAny (model X.prog X.w) X.A (evalAll ((backToKw pos (keywordEach kws X.env)).map (·.2))) (AP X pins σ Q) X.xe s
section
variable {X:Cx} {CX:CXT} {k:Nat} {f C:Addr} {fd:FuncData} {ps ks:List Str} {sp:Sp} {E:XK} {x m:Str} {p pos apos kpos:Pos} {e o:Expr} {es:List Expr} {kws:List Keyword} {te ta:TE} {t tk:TA} {nm:Option Str}
structure KBinds (K:PySem.W.Frag) (fd:FuncData) (ps ks:List Str) (g:List Value → List Value → List Value) (gV:List V → List V → List V):Prop where
  to:∀ (s:Shared) (us ws:List Value),K.In s.heap → (g us ws).length = ps.length → BindsTo s fd ⟨us,ks.zip ws⟩ (ps.zip (g us ws))
  rel:∀ {vs:List V} {us:List Value} {zs:List V} {ws:List Value},Vals vs us → Vals zs ws → Vals (gV vs zs) (g us ws)
variable {g:List Value → List Value → List Value} {gV:List V → List V → List V}
end
structure FnScope (N P:List Str) (sc:Scope):Prop where
  kind:sc.kind = .function
  co:sc.isCoroutine = false
  gen:sc.isGenerator = false
  nd:N.Nodup
  pre:N.take P.length = P
  par:∀ x ∈ P,sc.names.lookup x = some .local ∨ sc.names.lookup x = some .cell
  nofree:∀ y ∈ sc.names,y.2 ≠ .free
theorem Zfm {kindOf:Str → Option NameKind} {x:Str}:∀ {binds:List (Str × Value)} {m:Str → Option Value},(∀ v,(x,v) ∉ binds) → bindL kindOf binds m x = m x
  | [],_,_ => rfl
  | (n,v) :: r,m,h => by
    unfold bindL
    rw [Zfm fun w hw => h w (List.mem_cons_of_mem _ hw)]
    split
    · have:x ≠ n:=by rintro rfl; exact h v List.mem_cons_self
      simp [this]
    · rfl
theorem Zfn {kindOf:Str → Option NameKind} {x:Str}:∀ {binds:List (Str × Value)} {m:Str → Option Value},(∀ v,(x,v) ∉ binds) → bindC kindOf binds m x = m x
  | [],_,_ => rfl
  | (n,v) :: r,m,h => by
    unfold bindC
    rw [Zfn fun w hw => h w (List.mem_cons_of_mem _ hw)]
    split
    · rfl
    · have:x ≠ n:=by rintro rfl; exact h v List.mem_cons_self
      simp [this]
theorem Zfo {kindOf:Str → Option NameKind} {x:Str} {v:Value}:∀ {P:List Str} {vs:List Value} {i:Nat} {m:Str → Option Value},P.Nodup → P[i]? = some x → vs[i]? = some v → kindOf x = some .local →
    bindL kindOf (P.zip vs) m x = some v
  | [],_,_,_,_,h,_,_ => by simp at h
  | _ :: _,[],_,_,_,_,h,_ => by simp at h
  | p :: P,w :: vs,0,m,nd,h1,h2,hk => by
    simp at h1 h2; subst h1; subst h2
    show bindL kindOf ((p,w) :: P.zip vs) m p = _
    unfold bindL
    rw [Zfm fun v hv => (List.nodup_cons.mp nd).1 (List.of_mem_zip hv).1,if_pos hk]
    simp
  | p :: P,w :: vs,i + 1,m,nd,h1,h2,hk => by
    show bindL kindOf ((p,w) :: P.zip vs) m x = _
    unfold bindL
    exact Zfo (i:=i) (List.nodup_cons.mp nd).2 (by simpa using h1) (by simpa using h2) hk
theorem Zfp {kindOf:Str → Option NameKind} {x:Str} {v:Value}:∀ {P:List Str} {vs:List Value} {i:Nat} {m:Str → Option Value},P.Nodup → P[i]? = some x → vs[i]? = some v → kindOf x ≠ some .local →
    bindC kindOf (P.zip vs) m x = some v
  | [],_,_,_,_,h,_,_ => by simp at h
  | _ :: _,[],_,_,_,_,h,_ => by simp at h
  | p :: P,w :: vs,0,m,nd,h1,h2,hk => by
    simp at h1 h2; subst h1; subst h2
    show bindC kindOf ((p,w) :: P.zip vs) m p = _
    unfold bindC
    rw [Zfn fun v hv => (List.nodup_cons.mp nd).1 (List.of_mem_zip hv).1,if_neg hk]
    simp
  | p :: P,w :: vs,i + 1,m,nd,h1,h2,hk => by
    show bindC kindOf ((p,w) :: P.zip vs) m x = _
    unfold bindC
    exact Zfp (i:=i) (List.nodup_cons.mp nd).2 (by simpa using h1) (by simpa using h2) hk
def start (N:List Str) (vs:List V):St:=vs.map some ++ List.replicate (N.length - vs.length) none
def ZjW (CX:CXT) (P:Program) (w:World) (K:PySem.W.Frag) (mg:Str → Option Value) (base:Heap) (N:List Str) (qual:Str) (scope:Scope) (f:Addr) (cd:Value) (A:Around) (outer:List Env) (s:Shared) (H:Hp) (E:XK):Cx where
  prog:=P
  w:=w
  K:=K
  mg:=mg
  base:=base
  A:=A.deeper (envOfC qual scope s.heap.objs.size f cd)
  N:=N
  s₀:=s
  H₀:=H
  env:=envOfC qual scope s.heap.objs.size f cd
  outer:=outer
  stack:=envOfC qual scope s.heap.objs.size f cd :: outer
  ex:=[]
  calm:=true
  fn:=fun _ => true
  pn:=[]
  xe:=fun e s' => wpAny (model P w) (A.deeper (envOfC qual scope s.heap.objs.size f cd)) (leaving (envOfC qual scope s.heap.objs.size f cd) e) (fun _ s'' => CX outer H s E e s'') (fun e' s'' => CX outer H s E e' s'') s'
theorem ZgE {sc:Scope} {n:Nat} {x:Str} (h:sc.names.lookup x = some .cell):∃ c,(cellsFrom n sc.names []).lookup x = some c:=by
  have q:=PySem.W.cellsFrom_some sc.names n [] (.inl h)
  exact Option.isSome_iff_exists.mp q
theorem ZhW {CX:CXT} {P:Program} {w:World} {K:PySem.W.Frag} {mg:Str → Option Value} {base:Heap} {N ps:List Str} {qual:Str} {scope:Scope} {f:Addr} {cd:Value} {A:Around} {outer:List Env} {s s1:Shared} {H:Hp} {E:XK} {us:List Value} {vs:List V}
    (S:FnScope N ps scope) (hd:A.handled = none) (e0:Env0 P w K mg base A outer s H) (hl:vs.length = ps.length) (r:Vals vs us)
    (x:InCallC s s.heap.objs.size (bindL (envOfC qual scope s.heap.objs.size f cd).kindOf (ps.zip us) fun _ => none) (cellsFrom (s.heap.objs.size + 1) scope.names []) (bindC (envOfC qual scope s.heap.objs.size f cd).kindOf (ps.zip us) fun _ => none) s1) :
    Inv (ZjW CX P w K mg base N qual scope f cd A outer s H E) [] (start N vs) H s1:=by
  have hpl:ps.length ≤ N.length:=by have:=congrArg List.length S.pre; rw [List.length_take] at this; omega
  obtain ⟨h1,tk,rfl,hk⟩:=x.done
  have noA:∀ b:Addr,b ∉ (ZjW CX P w K mg base N qual scope f cd A outer s H E).ex:=fun b z => absurd (show b ∈ ([]:List Addr) from z) (by simp)
  refine ⟨⟨e0.mod,S.kind,rfl,rfl,Nat.le_refl _,fun y z c h1 h2 => ?_,fun y hy => ?_,fun y c _ h => ?_,fun _ => hd,Around.frames_deeper e0.frames,.inr ⟨rfl,rfl⟩,fun b z => absurd z (noA b),e0.bs,e0.bsz,fun b _ _ => noA b,fun b z => absurd z (noA b),e0.funs,e0.frf⟩,
    rfl,e0.bare,Un.kept hk,⟨_,x.toInCall.ns,fun i y v h1 h2 h3 => ?_⟩,fun y c h => ⟨_,x.cell y c h⟩,e0.hok.fresh (Nat.le_refl _),fun y c h => ?_,fun p hp => absurd (show p ∈ ([]:List (Addr × Obj)) from hp) (by simp),e0.hok.kept hk,?_⟩
  · exact name_of_addr x.apart (PySem.mem_of_lookup h1) (PySem.mem_of_lookup h2)
  · have hy:scope.names.lookup y = some .cell ∨ scope.names.lookup y = some .free:=hy
    rcases hy with hy | hy
    · exact ZgE hy
    · exact absurd rfl (S.nofree _ (PySem.mem_of_lookup hy))
  · exact Nat.le_of_lt (x.above y c (PySem.mem_of_lookup h))
  · have hi:i < vs.length:=by
      unfold start at h2
      by_cases hi:i < vs.length
      · exact hi
      · rw [List.getElem?_append_right (by simpa using hi)] at h2
        rw [List.getElem?_replicate] at h2
        split at h2 <;> cases h2
    have ha:vs[i]? = some v:=by
      unfold start at h2
      rw [List.getElem?_append_left (by simpa using hi),List.getElem?_map] at h2
      cases e:vs[i]? with
      | none => rw [e] at h2; cases h2
      | some a => rw [e] at h2; cases h2; rfl
    obtain ⟨u,hu,rv⟩:=r.get ha
    have hp:ps[i]? = some y:=by
      rw [← S.pre,List.getElem?_take_of_lt (by omega)]; exact h1
    have ndP:ps.Nodup:=by rw [← S.pre]; exact S.nd.sublist (List.take_sublist _ _)
    refine ⟨u,rv,?_⟩
    rcases S.par y (List.mem_of_getElem? hp) with k | k
    · exact .inl ⟨k,Zfo ndP hp hu k⟩
    · obtain ⟨c,e⟩:=ZgE (n:=s.heap.objs.size + 1) k
      refine .inr ⟨.inl k,c,e,?_⟩
      have q:=x.cell y c e
      rw [Zfp ndP hp hu (by show scope.names.lookup y ≠ _; rw [k]; decide)] at q
      exact q
  · exact e0.hok.fresh (Nat.le_of_lt (x.above y c (PySem.mem_of_lookup h)))
  · unfold start
    show _ = N.length
    rw [List.length_append,List.length_map,List.length_replicate]
    omega
theorem Zje {CX:CXT} {P:Program} {w:World} {K:PySem.W.Frag} {mg:Str → Option Value} {base:Heap} {k:Nat} {f:Addr} {name qual:Str} {params:Arguments} {body:List Stmt} {scope:Scope} {dV kV doc pm cdv ct oc:Value} {an od:Option Addr}
    {osl:Array (Option Value)} {N ps:List Str} {sp:Sp} (lk:K.lookup f = some ⟨oc,od,.func (PySem.W.fnOf name qual params body scope dV kV doc pm an cdv ct),osl⟩) (hcd:PySem.W.codeIn K cdv qual = true) (S:FnScope N ps scope)
    (len:∀ vs H Q E,sp vs H Q E → vs.length = ps.length)
    (hbody:∀ (A:Around) (outer:List Env) (s:Shared) (H:Hp) (vs:List V) (Q:VK) (E:XK),Room k (A.deeper (envOfC qual scope s.heap.objs.size f cdv)) → sp vs H Q E →
      ∃ t,PSs (ZjW CX P w K mg base N qual scope f cdv A outer s H E) body t ∧ t { nx:=fun _ H' => Q .non H',rt:=Q } (start N vs) H) :
    FnOk P w K mg base CX (k + 1) f (PySem.W.fnOf name qual params body scope dV kV doc pm an cdv ct) ps sp:=by
  refine ⟨len,fun A outer s H args us vs Q E hr e0 hb r hsp => ?_⟩
  have hl:=len _ _ _ _ hsp
  have KX:K.In s.heap:=e0.mod.kin.keeps fun b o e => (e0.bs b o e).1
  have lim:s.heap.NoLimit:=e0.mod.nolimit.keeps fun b o e => (e0.bs b o e).1
  have hkind:∀ y ∈ ps.zip us,scope.names.lookup y.1 = some .local ∨ (scope.names.lookup y.1 = some .cell ∧ ((cellsFrom (s.heap.objs.size + 1) scope.names []).lookup y.1).isSome = true):=fun ⟨n,v⟩ hy => by
    rcases S.par n (List.of_mem_zip hy).1 with q | q
    · exact .inl q
    · exact .inr ⟨q,PySem.W.cellsFrom_some _ _ _ (.inl q)⟩
  refine codeAny_call_function hr.depth (KX _ _ lk) rfl S.co S.gen rfl (PySem.W.codeRec_of KX hcd) (hb _ _ _ _ ?_)
  refine wpAny_newFunctionEnv_cells S.kind hkind fun env he s1 x => ?_
  subst he
  refine ⟨lim.keeps x.toInCall.keep,codeAny_func ?_⟩
  obtain ⟨t,ht,hq⟩:=hbody A outer s H vs Q E (hr.deeper _) hsp
  have I:Inv (ZjW CX P w K mg base N qual scope f cdv A outer s H E) [] (start N vs) H s1:=ZhW S hr.hd e0 hl r x
  refine wpAny_mono (ht [] s1 (start N vs) H _ I hq) (fun fl s' hs => ?_) fun e s' hs => hs
  have fin:∀ {σ':St} {H':Hp} {v:V} {u:Value},Inv (ZjW CX P w K mg base N qual scope f cdv A outer s H E) [] σ' H' s' → RelV v u → Q v H' → CE outer P w H s Q u s' :=
    fun {σ' H' v u} J rv q => ⟨v,H',J.os,J.bare,J.base,J.hok,rv,q⟩
  cases fl with
  | ret u =>
    obtain ⟨v,σ',H',J,rv,q⟩:=hs
    exact fin J rv q
  | next =>
    obtain ⟨σ',H',J,q⟩:=hs
    exact fin (v:=V.non) (u:=Value.none) J rfl q
  | brk =>
    obtain ⟨_,_,_,q⟩:=hs
    exact False.elim q
  | cont =>
    obtain ⟨_,_,_,q⟩:=hs
    exact False.elim q
end L2
namespace L2
open PySem PySem.Spec PyProof.Rows
section
variable {X:Cx} {x:Str} {p pos:Pos} {e:Expr} {es:List Expr} {t:TA} {id T:String} {r:List V → Hp → VK → Prop}
def tCB (r:List V → Hp → VK → Prop) (t:TA):TE:=fun σ H Q => t σ H fun vs H1 => r vs H1 Q
theorem Zak (hc:CallR X (.builtin id) r) (hg:Gl X x) (hm:X.mg x = none) (hv:bootBuiltins x = some (.builtin id)) (ha:PA X (e :: es) t) (hn:x ≠ "__name__" := by decide) (hdb:(x == ("__debug__" : Str)) = false:=by decide)
    (he:starEach (e :: es) X.env = (false,eval e X.env) :: starEach es X.env:=by rfl) (hpl:(backTo pos (starEach es X.env)).any (·.1) = false:=by rfl):PE X (.Call (.Name x p) (e :: es) [] pos) (tCB r t):=by
  intro pins s σ H Q I h
  refine wpAny_Call_Name_kw (Zep I hg hm hv ?_ hn hdb)
  exact PyProof.Rows.callWith_builtin1 (thn (ha pos pins s σ H _ I h) fun us s1 ⟨vs,H1,I1,r1,q1⟩ => hc pins s1 σ H1 vs us Q I1 r1 q1) he hpl
theorem ZbC (hc:CallR X (.type T) r) (hg:Gl X x) (hm:X.mg x = none) (hv:bootBuiltins x = some (.type T)) (ha:PA X (e :: es) t) (hn:x ≠ "__name__" := by decide) (hdb:(x == ("__debug__" : Str)) = false:=by decide)
    (he:starEach (e :: es) X.env = (false,eval e X.env) :: starEach es X.env:=by rfl) (hpl:(backTo pos (starEach es X.env)).any (·.1) = false:=by rfl):PE X (.Call (.Name x p) (e :: es) [] pos) (tCB r t):=by
  intro pins s σ H Q I h
  refine wpAny_Call_Name_kw (Zep I hg hm hv ?_ hn hdb)
  exact PyProof.Rows.callWith_type1 (thn (ha pos pins s σ H _ I h) fun us s1 ⟨vs,H1,I1,r1,q1⟩ => hc pins s1 σ H1 vs us Q I1 r1 q1) he hpl
end
end L2
namespace HT
open PySem PyProof.Rows
section
open PySem.SeqAt
open PySem.AutoSeq1 (wpAny_loadPart')
open PySem.MeetsSeq PySem.MeetsSeq2 PySem.MeetsSeq3
end
section
variable {prog:Program} {w:World} {A:Around} {E:Value → Shared → Prop} {s:Shared}
def sIx (n d:Nat):Option Int → Nat
  | none => d
  | some v => if v < 0 then (v + (n:Int)).toNat else min v.toNat n
theorem sIx_none (n d:Nat):sIx n d none = d:=rfl
theorem sIx_nat (n d k:Nat):sIx n d (some (k:Int)) = min k n:=by
  show (if (k:Int) < 0 then ((k:Int) + (n:Int)).toNat else min (k:Int).toNat n) = min k n
  rw [if_neg (by omega),Int.toNat_natCast]
end
end HT
namespace L2
open PySem PySem.Spec PyProof.Rows
abbrev TO:=St → Hp → (Option Int → Hp → Prop) → Prop
def PO (X:Cx) (e:Option Expr) (t:TO):Prop :=
  ∀ (pins:List (Addr × Obj)) (s:Shared) (σ:St) (H:Hp) (Q:Option Int → Hp → Prop),Inv X pins σ H s → t σ H Q →
    wpAny (model X.prog X.w) X.A (evalPart e X.env) (fun u s' => ∃ o H',Inv X pins σ H' s' ∧ IsPart u o ∧ Q o H') X.xe s
def Zkr:TO:=fun _ H Q => Q none H
def Zmc (t:TE):TO:=fun σ H Q => t σ H fun x H1 => ∃ i,x = .int i ∧ Q (some i) H1
section
variable {X:Cx} {e:Expr} {te:TE} {lo hi:Option Expr} {tl th:TO} {pos p2:Pos}
theorem Zce:PO X none Zkr:=by
  intro pins s σ H Q I h
  rw [evalPart_none]
  exact wpAny_pure ⟨none,H,I,.none,h⟩
theorem ZbO (h:PE X e te):PO X (some e) (Zmc te):=by
  intro pins s σ H Q I hw
  rw [evalPart_some]
  refine thn (h pins s σ H _ I hw) fun u s1 ⟨x,H1,I1,r1,q1⟩ => ?_
  obtain ⟨i,rfl,q⟩:=q1
  obtain ⟨t,rfl⟩:=r1
  exact ⟨some i,H1,I1,.int i t,q⟩
def SlR (X:Cx) (r:V → Option Int → Option Int → Hp → VK → Prop):Prop :=
  ∀ (pins:List (Addr × Obj)) (s:Shared) (σ:St) (H:Hp) (x:V) (v vl vu:Value) (lo hi:Option Int) (sl:Addr) (Q:VK),Inv X pins σ H s → RelV x v → s.heap.IsSliceOf sl vl vu .none → IsPart vl lo → IsPart vu hi → r x lo hi H Q →
    ∃ T id,typeLookup (.type T) "__getitem__" = pure (some (.builtin id)) ∧ s.TypeIs v T ∧ wpAny (model X.prog X.w) X.A (getItem v (.ref sl)) (EP X pins σ Q) X.xe s
theorem SlR.or {r r':V → Option Int → Option Int → Hp → VK → Prop} (h:SlR X r) (h':SlR X r'):SlR X (fun x lo hi H Q => r x lo hi H Q ∨ r' x lo hi H Q):=by
  intro pins s σ H x v vl vu lo hi sl Q I rx hs pl pu q
  rcases q with q | q
  · exact h pins s σ H x v vl vu lo hi sl Q I rx hs pl pu q
  · exact h' pins s σ H x v vl vu lo hi sl Q I rx hs pl pu q
def tSl (r:V → Option Int → Option Int → Hp → VK → Prop) (te:TE) (tl th:TO):TE:=fun σ H Q => te σ H fun x H1 => tl σ H1 fun l H2 => th σ H2 fun u H3 => r x l u H3 Q
theorem Zbt {r:V → Option Int → Option Int → Hp → VK → Prop} (hr:SlR X r) (he:PE X e te) (hl:PO X lo tl) (hu:PO X hi th):PE X (.Subscript e (.Slice lo hi none p2) pos) (tSl r te tl th):=by
  intro pins s σ H Q I h
  refine Subscript_ (thn (he pins s σ H _ I h) fun v s1 ⟨x,H1,I1,r1,q1⟩ => ?_)
  refine wpAny_Slice (thn (hl pins s1 σ H1 _ I1 q1) fun vl s2 ⟨l,H2,I2,pl,q2⟩ => thn (hu pins s2 σ H2 _ I2 q2) fun vu s3 ⟨u,H3,I3,pu,q3⟩ => ?_)
  rw [evalPart_none]
  refine wpAny_pure ?_
  have I4:Inv X pins σ H3 { s3 with heap:=s3.heap.push { cls:=.type "slice", data:=.fields #[vl,vu,.none] } }:=I3.kept (t':=s3.toks) fun b ob q => Heap.get?_push_of_some _ q
  obtain ⟨T,id,hT,ht,hg⟩:=hr pins { s3 with heap:=s3.heap.push { cls:=.type "slice", data:=.fields #[vl,vu,.none] } } σ H3 x v vl vu l u s3.heap.objs.size Q I4 r1 (Heap.IsSliceOf.new ..) pl pu q3
  show wpAny (model X.prog X.w) X.A (subscriptTail e (.Slice lo hi none p2) v (.ref s3.heap.objs.size)) (EP X pins σ Q) X.xe { s3 with heap:=s3.heap.push { cls:=.type "slice", data:=.fields #[vl,vu,.none] } }
  exact tail_any (ops:=[.ref s3.heap.objs.size,v]) ht hT hg (by with_unfolding_all rfl)
def Zfq (xs:List V) (lo hi:Option Int):List V:=(xs.drop (HT.sIx xs.length 0 lo)).take (HT.sIx xs.length xs.length hi - HT.sIx xs.length 0 lo)
theorem Zf0 (xs:List V) (lo hi:Option Int):(Zfq xs lo hi).length ≤ xs.length:=by
  unfold Zfq
  rw [List.length_take,List.length_drop]
  omega
end
end L2
namespace L2
open PySem PySem.Spec PyProof.Rows
def ixN (n:Nat) (i:Int):Option Nat:=if 0 ≤ i then (if i < n then some i.toNat else none) else if -(n:Int) ≤ i then some (i + n).toNat else none
def atI {α:Type} (xs:List α) (i:Int):Option α:=(ixN xs.length i).bind fun j => xs[j]?
theorem ZhX {n:Nat} {i:Int} {j:Nat} (h:ixN n i = some j):seqIndex? i n = some j ∧ j < n ∧ -(n:Int) ≤ i ∧ i < n:=by
  unfold ixN at h
  by_cases h0:0 ≤ i
  · rw [if_pos h0] at h
    by_cases h1:i < n
    · rw [if_pos h1] at h
      have e:i.toNat = j:=Option.some.inj h
      exact ⟨by rw [seqIndex_of h0 h1,e],by omega,by omega,h1⟩
    · rw [if_neg h1] at h; cases h
  · rw [if_neg h0] at h
    by_cases h1:-(n:Int) ≤ i
    · rw [if_pos h1] at h
      have e:(i + n).toNat = j:=Option.some.inj h
      exact ⟨by rw [seqIndex_neg (by omega) h1,e],by omega,h1,by omega⟩
    · rw [if_neg h1] at h; cases h
theorem ZhY {α:Type} {xs:List α} {i:Int} {v:α} (h:atI xs i = some v):∃ j,seqIndex? i xs.length = some j ∧ xs[j]? = some v ∧ j < xs.length ∧ -(xs.length:Int) ≤ i ∧ i < xs.length:=by
  unfold atI at h
  cases e:ixN xs.length i with
  | none => rw [e] at h; cases h
  | some j =>
    rw [e] at h
    obtain ⟨h1,h2,h3,h4⟩:=ZhX e
    exact ⟨j,h1,h,h2,h3,h4⟩
theorem Za4 {α:Type} {xs:List α} {j:Nat} {v:α} (h:xs[j]? = some v):atI xs (j:Int) = some v:=by
  have hj:j < xs.length:=(List.getElem?_eq_some_iff.mp h).1
  have e:ixN xs.length (j:Int) = some j:=by
    unfold ixN
    rw [if_pos (by omega),if_pos (by omega)]; simp
  unfold atI; rw [e]; exact h
theorem ZgF {α:Type} (xs:List α) (v:α):atI (xs ++ [v]) (-1) = some v:=by
  have hl:(xs ++ [v]).length = xs.length + 1:=by simp
  have e:ixN (xs ++ [v]).length (-1) = some xs.length:=by
    unfold ixN
    rw [hl,if_neg (by decide),if_pos (by omega)]
    congr 1
    omega
  unfold atI
  rw [e]
  show (xs ++ [v])[xs.length]? = some v
  simp
def Zks (b:Expr):Prop:=∀ o i,subscripted b false o i = operate [o,i] (getItem o i)
def IxR (X:Cx) (r:R2):Prop :=
  ∀ (value slice:Expr) (pins:List (Addr × Obj)) (s:Shared) (σ:St) (H:Hp) (x y:V) (v u:Value) (Q:VK),Inv X pins σ H s → RelV x v → RelV y u → r x y H Q →
    subscripted slice false v u = operate [v,u] (getItem v u) → wpAny (model X.prog X.w) X.A (subscriptTail value slice v u) (EP X pins σ Q) X.xe s
def MtR (X:Cx) (id:String) (r:V → List V → Hp → VK → Prop):Prop :=
  ∀ (pins:List (Addr × Obj)) (s:Shared) (σ:St) (H:Hp) (x:V) (xs:List V) (v:Value) (us:List Value) (Q:VK),Inv X pins σ H s → RelV x v → Vals xs us → r x xs H Q →
    wpAny (model X.prog X.w) X.A (call (.builtin id) (v :: us)) (EP X pins σ Q) X.xe s
section
variable {X:Cx} {a b:Expr} {ta tb:TE} {pos:Pos}
theorem IxR.or {r r':R2} (h:IxR X r) (h':IxR X r'):IxR X (fun x y H Q => r x y H Q ∨ r' x y H Q):=by
  intro value slice pins s σ H x y v u Q I rx ry q hs
  rcases q with q | q
  · exact h value slice pins s σ H x y v u Q I rx ry q hs
  · exact h' value slice pins s σ H x y v u Q I rx ry q hs
theorem MtR.or {id:String} {r r':V → List V → Hp → VK → Prop} (h:MtR X id r) (h':MtR X id r'):MtR X id (fun x xs H Q => r x xs H Q ∨ r' x xs H Q):=by
  intro pins s σ H x xs v us Q I rx rs q
  rcases q with q | q
  · exact h pins s σ H x xs v us Q I rx rs q
  · exact h' pins s σ H x xs v us Q I rx rs q
theorem Zar {r:R2} (hr:IxR X r) (ha:PE X a ta) (hb:PE X b tb) (hs:Zks b):PE X (.Subscript a b pos) (tOp r ta tb):=by
  intro pins s σ H Q I h
  exact Subscript_ (Zl9 ha hb I h fun v u s2 x y H2 I2 rx ry q => hr a b pins s2 σ H2 x y v u Q I2 rx ry q (hs _ _))
def ZmE (K:PySem.W.Frag):R2:=fun x y H Q => ∃ p xs i v,x = .ref p ∧ y = .int i ∧ SqL K H p xs ∧ atI xs i = some v ∧ Q v H
def Zm1 (K:PySem.W.Frag):R2:=fun x y H Q => ∃ p xs i v,x = .ref p ∧ y = .int i ∧ SqT K H p xs ∧ atI xs i = some v ∧ Q v H
theorem Zaw:IxR X (ZmE X.K):=by
  intro value slice pins s σ H x y v u Q I rx ry h hs
  obtain ⟨p,xs,i,z,rfl,rfl,hq,he,q⟩:=h
  cases rx
  obtain ⟨t,rfl⟩:=ry
  obtain ⟨its,r,pl,hz⟩:=I.list hq
  obtain ⟨j,h1,h2,h3,h4,h5⟩:=ZhY he
  obtain ⟨w,ew,rw'⟩:=r.get h2
  have hl:=r.length
  have hn:=ZgC
  have fin:EP X pins σ Q w s:=⟨z,H,I,rw',q⟩
  by_cases h0:0 ≤ i
  · have hj:i.toNat = j:=by
      rw [seqIndex_of h0 h5] at h1
      exact Option.some.inj h1
    exact item_listR pl.isList h0 (by omega) (by rw [hj]; simpa using ew) fin hs
  · have hj:(i + (its.toArray.size:Int)).toNat = j:=by
      rw [seqIndex_neg (by omega) h4] at h1
      rw [List.size_toArray,← hl]
      exact Option.some.inj h1
    exact subscriptTail_builtinR (x:=w) pl.isList.typeIs slot_list_getitem.lookup
      (wpAny_getItem_list_neg (Q:=fun r s' => r = w ∧ EP X pins σ Q r s') pl.isList (by omega) (by rw [List.size_toArray] <;> omega) (by omega) (by rw [hj]; simpa using ew) ⟨rfl,fin⟩) hs
theorem Zaq:IxR X (Zm1 X.K):=by
  intro value slice pins s σ H x y v u Q I rx ry h hs
  obtain ⟨p,xs,i,z,rfl,rfl,hq,he,q⟩:=h
  cases rx
  obtain ⟨t,rfl⟩:=ry
  obtain ⟨its,r,pl,hz⟩:=I.tuple hq
  obtain ⟨j,h1,h2,h3,h4,h5⟩:=ZhY he
  obtain ⟨w,ew,rw'⟩:=r.get h2
  have hl:=r.length
  have hn:=ZgC
  have fin:EP X pins σ Q w s:=⟨z,H,I,rw',q⟩
  exact subscriptTail_builtinR (x:=w) pl.typeIs slot_tuple_getitem.lookup
    (getItem_tuple (j:=j) (Q:=fun r s' => r = w ∧ EP X pins σ Q r s') pl (by omega) (by omega) (by rw [List.size_toArray,← hl]; exact h1) (by simpa using ew) ⟨rfl,fin⟩) hs
theorem Zhh (its:List Value) (n j:Nat) (u:Value):Obj.mapSeq (·.setIfInBounds j u) { cls:=.type "list", data:=.seq its.toArray n } = { cls:=.type "list", data:=.seq (its.set j u).toArray n }:=by
  simp [Obj.mapSeq]
theorem Inv.lst {pins:List (Addr × Obj)} {σ:St} {H:Hp} {s:Shared} {p:Addr} {xs:List V} (I:Inv X pins σ H s) (h:H p = some (.lst xs)) :
    ∃ (its:List Value) (n:Nat),Vals xs its ∧ s.heap.get? p = some { cls:=.type "list", data:=.seq its.toArray n } ∧ xs.length ≤ sizeLine:=by
  obtain ⟨z,its,n,r,e⟩:=I.hok p _ h
  exact ⟨its,n,r,e,z⟩
theorem Inv.lstUpd {pins:List (Addr × Obj)} {σ:St} {H:Hp} {s:Shared} {p:Addr} {xs ys:List V} {its its':List Value} {n n':Nat} {f:Obj → Obj} (I:Inv X pins σ H s) (h:H p = some (.lst xs))
    (ho:s.heap.get? p = some { cls:=.type "list", data:=.seq its.toArray n }) (hf:f { cls:=.type "list", data:=.seq its.toArray n } = { cls:=.type "list", data:=.seq its'.toArray n' }) (r:Vals ys its') (hz:ys.length ≤ sizeLine) (t:Nat) :
    Inv X pins σ (upd H p (.lst ys)) { s with heap:=s.heap.update p f,toks:=t }:=by
  have e:(s.heap.update p f).get? p = some { cls:=.type "list", data:=.seq its'.toArray n' }:=by
    rw [Heap.get?_update_self f ho (by rw [hf] <;> rfl),hf]
  refine I.write (x:=p) (e:=p) (by rw [h]; trivial) (.inl rfl) (fun b u hb q => (Heap.get?_update_other _ _ (Ne.symm hb)).trans q) ⟨_,e⟩ ?_
  exact ⟨hz,its',n',r,e⟩
def Zmd:V → V → V → Hp → (Hp → Prop) → Prop:=fun o i v H Q => ∃ p xs k j,o = .ref p ∧ i = .int k ∧ H p = some (.lst xs) ∧ ixN xs.length k = some j ∧ Q (upd H p (.lst (xs.set j v)))
theorem Zjf:Zmz X Zmd:=by
  intro pins s σ H o i v ov iv u Q I ro ri rv h
  obtain ⟨p,xs,k,j,rfl,rfl,hp,hj,q⟩:=h
  cases ro
  obtain ⟨t,rfl⟩:=ri
  obtain ⟨its,n,r,ho,hz⟩:=I.lst hp
  obtain ⟨h1,h2,h3,h4⟩:=ZhX hj
  have hl:=r.length
  have hn:=ZgC
  have I':Inv X pins σ (upd H p (.lst (xs.set j v))) { s with heap:=s.heap.update p (Obj.mapSeq (·.setIfInBounds j u)) } :=
    I.lstUpd hp ho (Zhh its n j u) (r.set rv j) (by rw [List.length_set]; exact hz) s.toks
  by_cases h0:0 ≤ k
  · have hk:k.toNat = j:=by
      rw [seqIndex_of h0 h4] at h1
      exact Option.some.inj h1
    exact PySem.W.ki_setAt ho h0 (by omega) (by rw [List.size_toArray,← hl]; exact h4) (by rw [hk]; exact ⟨_,I',q⟩)
  · have hk:(k + (its.toArray.size:Int)).toNat = j:=by
      rw [seqIndex_neg (by omega) h3] at h1
      rw [List.size_toArray,← hl]
      exact Option.some.inj h1
    exact PySem.W.ki_setBack ho (by omega) (by rw [List.size_toArray,← hl]; exact h3) (by omega) (by rw [hk]; exact ⟨_,I',q⟩)
theorem Zfr (lo hi:Option Int) (n:Nat):(sliceBounds lo hi none n).1 = ((HT.sIx n 0 lo:Nat):Int) ∧ (sliceBounds lo hi none n).2.1 = ((HT.sIx n n hi:Nat):Int) ∧ (sliceBounds lo hi none n).2.2 = 1:=by
  refine ⟨?_,?_,rfl⟩
  · cases lo with
    | none => simp [sliceBounds,HT.sIx]
    | some i =>
      simp only [sliceBounds,HT.sIx,Option.getD_none,show (1:Int) > 0 by decide,if_true]
      by_cases h:i < 0
      · simp only [h,if_true] <;> omega
      · simp only [h,if_false] <;> omega
  · cases hi with
    | none => simp [sliceBounds,HT.sIx]
    | some i =>
      simp only [sliceBounds,HT.sIx,Option.getD_none,show (1:Int) > 0 by decide,if_true]
      by_cases h:i < 0
      · simp only [h,if_true] <;> omega
      · simp only [h,if_false] <;> omega
theorem ZeJ (its:List Value) (lo hi:Option Int):slicePick its.toArray lo hi none = ((its.drop (HT.sIx its.length 0 lo)).take (HT.sIx its.length its.length hi - HT.sIx its.length 0 lo)).toArray:=by
  obtain ⟨h1,h2,h3⟩:=Zfr lo hi its.toArray.size
  unfold slicePick
  rw [h1,h2,h3]
  simp only [sliceRange_one,pick_run,List.size_toArray] <;> rfl
def Zm2 (K:PySem.W.Frag):V → Option Int → Option Int → Hp → VK → Prop:=fun x lo hi H Q => ∃ a xs,x = .ref a ∧ SqL K H a xs ∧ ∀ p,H p = none → Q (.ref p) (upd H p (.lst (Zfq xs lo hi)))
theorem ZbY:SlR X (Zm2 X.K):=by
  intro pins s σ H x v vl vu lo hi sl Q I rx hs pl pu h
  obtain ⟨a,xs,rfl,hx,q⟩:=h
  cases rx
  obtain ⟨its,r,ht,hz⟩:=I.list hx
  have hlen:=r.length
  refine ⟨"list", _,slot_list_getitem.lookup,ht.isList.typeIs,?_⟩
  refine wpAny_getItem_list_slice ht.isList hs pl pu .none (by simp) ?_ (by rw [List.size_toArray] <;> omega)
  rw [ZeJ,← hlen]
  refine ⟨.ref s.heap.objs.size,_,I.laid (t':=s.toks) (o:=.lst (Zfq xs lo hi)) (fun b ob q => Heap.get?_push_of_some _ q) (Nat.le_refl _) ?_,rfl,q _ (I.hok.fresh (Nat.le_refl _))⟩
  exact ⟨Nat.le_trans (Zf0 xs lo hi) hz,_,0,(r.drop (HT.sIx xs.length 0 lo)).take (HT.sIx xs.length xs.length hi - HT.sIx xs.length 0 lo),Heap.get?_push_size _ rfl⟩
theorem Zal:CallR X (.builtin "len") (fun xs H Q => ∃ p ys,xs = [.ref p] ∧ (SqL X.K H p ys ∨ SqT X.K H p ys) ∧ Q (.int ys.length) H):=by
  intro pins s σ H xs us Q I r h
  obtain ⟨p,ys,rfl,hq,q⟩:=h
  obtain ⟨u,rfl,rx⟩:=Zhc r
  cases rx
  have hn:=ZgC
  rcases hq with hq | hq
  · obtain ⟨its,r',pl,hz⟩:=I.list hq
    have hlen:=r'.length
    exact Calls.call_len_list pl.isList (by simp only [List.size_toArray] <;> omega) ⟨.int ys.length,H,I.tok _,⟨s.toks + 1,by rw [List.size_toArray,hlen]⟩,q⟩
  · obtain ⟨its,r',pl,hz⟩:=I.tuple hq
    have hlen:=r'.length
    exact len_tuple pl (by simp only [List.size_toArray] <;> omega) ⟨.int ys.length,H,I.tok _,⟨s.toks + 1,by rw [List.size_toArray,hlen]⟩,q⟩
theorem CallR.or {f:Value} {r r':List V → Hp → VK → Prop} (h:CallR X f r) (h':CallR X f r'):CallR X f (fun xs H Q => r xs H Q ∨ r' xs H Q):=by
  intro pins s σ H xs us Q I rs q
  rcases q with q | q
  · exact h pins s σ H xs us Q I rs q
  · exact h' pins s σ H xs us Q I rs q
theorem Za1:CallR X (.type "list") (fun xs H Q => ∃ p ys,xs = [.ref p] ∧ (SqL X.K H p ys ∨ SqT X.K H p ys) ∧ ∀ l,H l = none → Q (.ref l) (upd H l (.lst ys))):=by
  intro pins s σ H xs us Q I r h
  obtain ⟨p,ys,rfl,hq,q⟩:=h
  obtain ⟨u,rfl,rx⟩:=Zhc r
  cases rx
  have fin:∀ (its:List Value),Vals ys its → ys.length ≤ sizeLine → ∀ (h':Heap) (c':Nat),(∀ b o',s.heap.get? b = some o' → h'.get? b = some o') →
      h'.get? s.heap.objs.size = some { cls:=.type "list", dict:=none,data:=.seq its.toArray c',slots:=#[] } → EP X pins σ Q (.ref s.heap.objs.size) { s with heap:=h' }:=fun its r' hz h' c' kp e =>
    ⟨.ref s.heap.objs.size,_,I.laid (t':=s.toks) kp (Nat.le_refl _) (show ObjOk X.prog X.w _ h' _ (.lst ys) from ⟨hz,its,c',r',e⟩),rfl,q _ (I.hok.fresh (Nat.le_refl _))⟩
  rcases hq with hq | hq
  · obtain ⟨its,r',pl,hz⟩:=I.list hq
    have hlen:=r'.length
    obtain ⟨o,ho,hc,n,hd⟩:=pl.isList
    exact call_list_seq p (.inl rfl) ho hc hd (fun h' c' kp e => fin its r' hz h' c' kp e) (by simp only [List.size_toArray] <;> omega)
  · obtain ⟨its,r',pl,hz⟩:=I.tuple hq
    have hlen:=r'.length
    obtain ⟨o,ho,hc,n,hd⟩:=pl
    exact call_list_seq p (.inr rfl) ho hc hd (fun h' c' kp e => fin its r' hz h' c' kp e) (by simp only [List.size_toArray] <;> omega)
theorem ZeK:CallR X (.type "tuple") (fun xs H Q => ∃ p ys,xs = [.ref p] ∧ ((SqL X.K H p ys ∧ ∀ l,H l = none → Q (.ref l) (upd H l (.tup ys))) ∨ (SqT X.K H p ys ∧ Q (.ref p) H))):=by
  intro pins s σ H xs us Q I r h
  obtain ⟨p,ys,rfl,h⟩:=h
  obtain ⟨u,rfl,rx⟩:=Zhc r
  cases rx
  rcases h with ⟨hq,q⟩ | ⟨hq,q⟩
  · obtain ⟨its,r',pl,hz⟩:=I.list hq
    have hlen:=r'.length
    refine call_tuple_list pl.isList (fun h' kp => ?_) (by simp only [List.size_toArray] <;> omega)
    have I1:Inv X pins σ H { s with heap:=h' }:=I.kept (t':=s.toks) kp
    have I2:Inv X pins σ (upd H h'.objs.size (.tup ys)) { s with heap:=h'.push { cls:=.type "tuple", data:=.seq its.toArray } } :=
      I1.laid (t':=s.toks) (fun b o e => Heap.get?_push_of_some _ e) (Nat.le_refl _) (show ObjOk X.prog X.w _ _ _ (.tup ys) from ⟨hz,its,r',IsTup.new _ _⟩)
    exact ⟨.ref h'.objs.size,_,I2,rfl,q _ (I1.hok.fresh (Nat.le_refl _))⟩
  · obtain ⟨its,r',pl,hz⟩:=I.tuple hq
    exact call_tuple_same pl ⟨.ref p,H,I,rfl,q⟩
def tyV (K:PySem.W.Frag) (T:String) (x:V) (H:Hp):Prop:=match x with
  | .str _ => T = "str"
  | .int _ => T = "int"
  | .ref p => (T = "list" ∧ ∃ xs,SqL K H p xs) ∨ (T = "tuple" ∧ ∃ o,K.lookup p = some o ∧ o.cls = .type "tuple" ∧ o.dict = none) ∨
      (T = "dict" ∧ ((∃ kvs,H p = some (.dK kvs)) ∨ ∃ kvs,H p = some (.dT kvs))) ∨ (T = "set" ∧ ∃ S n,H p = some (.set S n))
  | _ => False
theorem Zln {pins:List (Addr × Obj)} {σ:St} {H:Hp} {s:Shared} {T:String} {x:V} {v:Value} (I:Inv X pins σ H s) (r:RelV x v) (ty:tyV X.K T x H) :
    s.TypeIs v T ∧ ∀ a,v = .ref a → ∃ ob,s.heap.get? a = some ob ∧ ob.dict = none:=by
  cases x with
  | str z =>
    obtain ⟨t,rfl⟩:=r
    cases (show T = "str" from ty)
    exact ⟨typeIs_str s z t,fun _ e => nomatch e⟩
  | int i =>
    obtain ⟨t,rfl⟩:=r
    cases (show T = "int" from ty)
    exact ⟨typeIs_int s i t,fun _ e => nomatch e⟩
  | ref p =>
    cases r
    rcases ty with ⟨rfl,xs,hq⟩ | ⟨rfl,o,hk,hc,hd⟩ | ⟨rfl,hk⟩ | ⟨rfl,S,n,hk⟩
    · obtain ⟨its,_,pl,_⟩:=I.list hq
      refine ⟨pl.isList.typeIs,fun a e => ?_⟩
      cases e
      obtain ⟨o,n,e,c,hd,_⟩:=pl
      exact ⟨o,e,hd⟩
    · refine ⟨⟨o,I.kIn p o hk,hc⟩,fun a e => ?_⟩
      cases e
      exact ⟨o,I.kIn _ o hk,hd⟩
    · have z:∃ o,s.heap.get? p = some o ∧ o.ExactDict:=by
        rcases hk with ⟨kvs,hk⟩ | ⟨kvs,hk⟩
        · obtain ⟨_,_,_,_,o,_,_,e,ex,_⟩:=I.hok p _ hk
          exact ⟨o,e,ex⟩
        · obtain ⟨_,_,_,_,o,_,_,e,ex,_⟩:=I.hok p _ hk
          exact ⟨o,e,ex⟩
      obtain ⟨o,e,ex⟩:=z
      refine ⟨⟨o,e,ex.1⟩,fun a e2 => ?_⟩
      cases e2
      exact ⟨o,e,ex.2.1⟩
    · obtain ⟨o,_,_,_,e,ex,_⟩:=I.hok p _ hk
      refine ⟨⟨o,e,ex.1⟩,fun a e2 => ?_⟩
      cases e2
      exact ⟨o,e,ex.2.1⟩
  | _ => exact False.elim ty
def tBM (K:PySem.W.Frag) (T:String) (r:V → List V → Hp → VK → Prop) (to:TE) (t:TA):TE:=fun σ H Q => to σ H fun x H1 => tyV K T x H1 ∧ t σ H1 fun xs H2 => r x xs H2 Q
variable {o e:Expr} {es:List Expr} {to:TE} {t:TA} {name:Str} {apos cpos:Pos} {T id:String} {r:V → List V → Hp → VK → Prop}
theorem ZhZ (pa:PlainAttrs T) (slot:Slot T name id) (hty:typeOf (.builtin id) = pure (.type "method_descriptor")) (hm:MtR X id r) (ho:PE X o to) (ha:PA X (e :: es) t)
    (hbase:attributeBase o name X.env (eval o X.env) = eval o X.env:=by rfl)
    (hfew:((backTo cpos (starEach (e :: es) X.env)).all (fun x => !x.1) && (backToKw cpos (keywordEach [] X.env)).all (fun x => x.1.isSome)
      && decide ((e :: es).length + ([]:List Keyword).length + (if ([]:List Keyword).isEmpty then 0 else 1) < 30)) = true:=by rfl)
    (hline:(apos.endLine == cpos.line) = true:=by rfl) (hs:starEach (e :: es) X.env = (false,eval e X.env) :: starEach es X.env:=by rfl) (hplain:(backTo cpos (starEach es X.env)).any (·.1) = false:=by rfl) :
    PE X (.Call (.Attribute o name apos) (e :: es) [] cpos) (tBM X.K T r to t):=by
  intro pins s σ H Q I h
  refine wpAny_Call_method_late hbase hfew hline rfl (thn (ho pins s σ H _ I h) fun v s1 ⟨x,H1,I1,r1,ty,q1⟩ => ?_)
  obtain ⟨h1,h2⟩:=Zln I1 r1 ty
  refine ⟨T,id,pa,slot,hty,h1,h2,?_⟩
  have hA:=ha cpos pins s1 σ H1 _ I1 q1
  rw [hs] at hA ⊢
  refine Calls.callWith_builtin (by show (false || (backTo cpos (starEach es X.env)).any (·.1)) = false; rw [hplain] <;> rfl) (Calls.evalArgs_plain ?_)
  exact thn hA fun us s2 ⟨vs,H2,I2,r2,q2⟩ => hm pins s2 σ H2 x vs v us Q I2 r1 r2 q2
/- xs.append(e),list.index on a module's tuple .. are MtR facts of 06m -/
end
end L2
namespace L2
open PySem PySem.Spec PyProof.Rows
def MtM (X:Cx) (id:String) (r:V → List V → Hp → VK → Prop):Prop :=
  ∀ (pins:List (Addr × Obj)) (s:Shared) (σ:St) (H:Hp) (x:V) (xs:List V) (v:Value) (us:List Value) (Q:VK),Inv X pins σ H s → RelV x v → Vals xs us → r x xs H Q →
    wpAny (model X.prog X.w) X.A (call (.builtin id) (v :: us)) (EP X pins σ Q) X.xe s
theorem Vals.one:∀ {x:V} {us:List Value},Vals [x] us → ∃ u,us = [u] ∧ RelV x u
  | _,_,.cons r .nil => ⟨_,rfl,r⟩
theorem Vals.two:∀ {x y:V} {us:List Value},Vals [x,y] us → ∃ u v,us = [u,v] ∧ RelV x u ∧ RelV y v
  | _,_,_,.cons r (.cons q .nil) => ⟨_,_,rfl,r,q⟩
theorem Vals.zero:∀ {us:List Value},Vals [] us → us = []
  | _,.nil => rfl
theorem Vals.reverse {xs:List V} {us:List Value} (h:Vals xs us):Vals xs.reverse us.reverse:=by
  induction h with
  | nil => exact .nil
  | cons r t ih => rw [List.reverse_cons,List.reverse_cons]; exact Vals.append ih (.cons r .nil)
section
variable {X:Cx} {pins:List (Addr × Obj)} {σ:St} {H:Hp} {s:Shared} {l b:Addr} {xs ys zs:List V}
theorem Inv.lset {its its':List Value} {n:Nat} {f:Array Value → Array Value} {t':Nat} (I:Inv X pins σ H s) (hH:H l = some (.lst xs))
    (e:s.heap.get? l = some { cls:=.type "list", data:=.seq its.toArray n }) (hf:f its.toArray = its'.toArray) (hv:Vals ys its') (hz:ys.length ≤ sizeLine) :
    Inv X pins σ (upd H l (.lst ys)) { s with heap:=s.heap.update l (Obj.mapSeq f),toks:=t' }:=by
  have q:=PySem.IsL.update e f
  rw [hf] at q
  refine I.write (x:=l) (e:=l) (by rw [hH]; exact trivial) (.inl rfl) (fun b' u hb hu => (Heap.get?_update_other s.heap (Obj.mapSeq f) (Ne.symm hb)).trans hu) ⟨_,q⟩ ?_
  exact ⟨hz,its',_,hv,q⟩
theorem Inv.lnew {its:List Value} {t':Nat} (I:Inv X pins σ H s) (hv:Vals ys its) (hz:ys.length ≤ sizeLine) :
    Inv X pins σ (upd H s.heap.objs.size (.lst ys)) { s with heap:=s.heap.push { cls:=.type "list", data:=.seq its.toArray },toks:=t' } :=
  I.laid (fun _ _ q => Heap.get?_push_of_some _ q) (Nat.le_refl _) ⟨hz,its,0,hv,Heap.get?_push_size _ rfl⟩
theorem Inv.fresh (I:Inv X pins σ H s):H s.heap.objs.size = none:=I.hok.fresh (Nat.le_refl _)
theorem Inv.lstM (I:Inv X pins σ H s) (hH:H l = some (.lst xs)):xs.length ≤ sizeLine ∧ ∃ (its:List Value) (n:Nat),Vals xs its ∧ xs.length = its.length ∧ s.heap.get? l = some { cls:=.type "list", data:=.seq its.toArray n }:=by
  obtain ⟨z,its,n,r,e⟩:=I.hok l _ hH
  exact ⟨z,its,n,r,r.length,e⟩
end
section
variable {X:Cx}
def Zkt:V → List V → Hp → VK → Prop:=fun x vs H Q => ∃ l xs y,x = .ref l ∧ vs = [y] ∧ H l = some (.lst xs) ∧ xs.length < sizeLine ∧ Q .non (upd H l (.lst (xs ++ [y])))
theorem Zcf:MtM X "list.append" Zkt:=by
  intro pins s σ H x vs v us Q I rx rv h
  obtain ⟨l,xs,y,rfl,rfl,hH,hz,q⟩:=h
  cases rx
  obtain ⟨u,rfl,ru⟩:=rv.one
  obtain ⟨z,its,n,r,hl,e⟩:=I.lstM hH
  refine call_meets F.slot_list_append ⟨_,e,rfl⟩ F.entry_list_append (F.args_list_append_2 _ _) (PySem.list_append l its.toArray n u (by rw [List.size_toArray]; omega)) ⟨e,?_⟩
  refine ⟨.non,_,I.lset (its':=its ++ [u]) hH e (by simp) (r.append (.cons ru .nil)) ?_,rfl,q⟩
  rw [List.length_append,List.length_singleton]
  omega
def Zm3:R2:=fun x y H Q => ∃ l b xs zs,x = .ref l ∧ y = .ref b ∧ H l = some (.lst xs) ∧ H b = some (.lst zs) ∧ xs.length + zs.length ≤ sizeLine ∧ ∀ p,H p = none → Q (.ref p) (upd H p (.lst (xs ++ zs)))
theorem ZcS:OpR X (binaryOp .Add) Zm3:=by
  intro pins s σ H x y v u Q I rx ry h
  obtain ⟨l,b,xs,zs,rfl,rfl,hH,hB,hz,q⟩:=h
  cases rx
  cases ry
  obtain ⟨z,its,n,r,hl,e⟩:=I.lstM hH
  obtain ⟨z2,its2,n2,r2,hl2,e2⟩:=I.lstM hB
  refine PySem.P.add_list e e2 ?_ (by rw [List.size_toArray,List.size_toArray]; omega)
  have ea:its.toArray ++ its2.toArray = (its ++ its2).toArray:=by simp
  rw [ea]
  exact ⟨.ref _,_,I.lnew (t':=s.toks) (r.append r2) (by rw [List.length_append]; omega),rfl,q _ I.fresh⟩
end
section
variable {prog:Program} {w:World} {A:Around} {E:Value → Shared → Prop} {s:Shared}
end
section
variable {X:Cx}
end
end L2
namespace Att
open PySem PySem.W PySem.Calls PyProof.Rows
theorem ZdK {P:Params} {h:Heap}:∀ (ns:List Int) (vs:List Value),WellAll P h vs (ns.map WData.int) → IntsAre vs ns:=by
  intro ns
  induction ns with
  | nil =>
    intro vs w
    rw [List.map_nil] at w
    cases w
    exact .nil
  | cons n ns ih =>
    intro vs w
    rw [List.map_cons] at w
    cases w with
    | cons a b =>
      cases a
      exact .cons _ _ (ih _ b)
theorem script_of {l:OpenLaw} {n:Nat} (hn:l.most = some n) {P:Params} {h:Heap} {args:List WData} {vals:List Value}
    (hpre:l.row.toRowW.claim.pre args = true) (hwl:WellAll P h vals args) :
    ∃ a vs ns,vals = [Value.ref a] ∧ args = [WData.list (ns.map WData.int)] ∧ h.get? a = some { cls:=.type "list", data:=.seq vs.toArray } ∧ IntsAre vs ns ∧ ns.length ≤ n:=by
  have hsh:WShape.hasAll [] args [.list .int] = true:=(pre_splitW hpre).1
  have hc:l.pre.holds [] { args:=args } = true:=(pre_splitW hpre).2
  obtain ⟨d,r,rfl,h1,h2⟩:=hasAllW_cons hsh
  obtain rfl:=hasAllW_nil h2
  obtain ⟨xs,rfl,h3⟩:=hasW_list h1
  obtain ⟨ns,rfl⟩:=items_int h3
  have hlen:ns.length ≤ n:=by
    unfold OpenLaw.pre at hc
    have h4:(WTm.not (.lt (.lit (.int (n:Int))) (.len (.arg 0)))).holds [] { args:=[.list (ns.map .int)] } = true:=by
      have h4:=(holds_andW hc).1
      rw [hn] at h4
      exact h4
    have h5:=condW_of h4 (w_not (w_lt w_lit (w_len_list (w_arg rfl))))
    rw [List.length_map] at h5
    refine Nat.le_of_not_lt fun q => ?_
    have q':(n:Int) < ((ns.length:Nat):Int):=by omega
    first
      | (rw [decide_eq_true q'] at h5; exact absurd h5 (by decide))
      | (simp at h5; omega)
  cases hwl with
  | cons w1 w2 =>
    cases w2
    cases w1 with
    | list ho hall => exact ⟨_,_,ns,rfl,rfl,ho,ZdK ns _ hall,hlen⟩
theorem post_true (l:OpenLaw) (args:List WData):l.row.toRowW.claim.post args (.bool true) args = true :=
  postW_of (r:=l.row.toRowW) (X:=(true == true))
    (show WShape.has [] (.bool true) .bool = true by first | rfl | decide | simp [WShape.has,WShape.arms,WShape.armsAll])
    (show (WTm.eq .res (.lit (.bool true))).value [] { args:=args,res:=some (.bool true),after:=args } = some (.bool (true == true)) from w_eq_bool (w_res rfl) w_lit) rfl
theorem attach_call {l:OpenLaw} {n:Nat} {q:Program} {loose:List Str} {XP:(Str → Option Value) → Heap → Prop} {YP:World → Heap → Prop} {d:DefRec}
    (hn:l.most = some n) (hdf:d.params.defaults = [])
    (call:∀ (w:World) (s₀ s₁:Shared) (mg mb:Str → Option Value) (fa:Addr) (o:Obj) (pm cd doc:Value) (a:Addr) (vs:List Value) (ns:List Int),
      Ground q loose [] XP w s₀ mg mb s₁.heap → YP w s₁.heap →
      s₁.heap.get? fa = some o → o.data = .func (docDef d.name d.params d.body d.scope pm cd doc) → s₁.heap.CodeRec cd d.name → mg d.name = some (.ref fa) →
      s₁.heap.get? a = some { cls:=.type "list", data:=.seq vs.toArray } → IntsAre vs ns → ns.length ≤ n → s₁.gens = #[] →
      codeAny (model l.prog w) callerA (.call (.ref fa) ⟨[.ref a],[]⟩) (fun r s' => r = .ok (.ret (.bool true)) ∧ OldK s₁.heap s'.heap ∧ s'.os = s₁.os ∧ AllBare s'.gens) s₁) :
    WalkO q loose XP YP l.row.toRowW d [] (fun f vs => PySem.call f vs):=by
  intro w s₀ s₁ mg mb G Y fa o pm cd doc dV kV ho hd hcd hD hmg hg args vals as hpre hlay hrd hwl hlo
  obtain rfl:dV = .none:=Dflts.none hD hdf
  obtain rfl:kV = .none:=Dflts.noKw hD
  obtain ⟨a,vs,ns,rfl,rfl,hobj,hints,hlen⟩:=script_of hn hpre hwl
  refine enter_call (codeAny_mono (call w s₀ s₁ mg mb fa o pm cd doc a vs ns G Y ho (fd_plain hd) hcd hmg hobj hints hlen hg) fun r s' hq => ?_)
  obtain ⟨rfl,h2,h3,h4⟩:=hq
  exact ⟨.inl ⟨.bool true,.bool true,[],rfl,fun _ => rfl,.bool true,post_true l _,fun _ => ⟨List.Pairwise.nil,fun _ hm => (nomatch hm)⟩⟩,h2,h3,h4⟩
section
variable {prog:Program} {w:World} {A:Around} {E:Value → Shared → Prop} {s:Shared} {K:Frag}
def ZmF (h:Heap) (L d:Addr):List (Addr × Obj):=(List.range h.objs.size).filterMap fun a => if a = L ∨ a = d then none else (h.get? a).map fun o => (a,o)
end
end Att
namespace L2
open PySem PySem.Spec PyProof.Rows
theorem Zfs:∀ {vs:List Value} {ns:List Int},IntsAre vs ns → Vals (ns.map V.int) vs
  | _,_,.nil => .nil
  | _,_,.cons n t h => .cons ⟨t,rfl⟩ (Zfs h)
def ZlX (H:Hp):Prop:=∀ b,H b = none ∨ ∃ o xs,H b = some (.frz o (.lst xs))
theorem ZgG {P:Program} {w:World} {K:PySem.W.Frag} {mg mb:Str → Option Value} {CX:CXT} {k:Nat} {fa a:Addr} {fd:FuncData} {x:Str} {sp:Sp} {s₁:Shared} {vs:List Value} {ns:List Int}
    (KX:K.In s₁.heap) (hns:s₁.heap.Ns mainGlobals mg) (hb:s₁.heap.Ns builtinsNs mb) (hbb:∀ x:Str,x ≠ "__name__" → mb x = bootBuiltins x) (hlim:s₁.heap.NoLimit) (hg:s₁.gens = #[])
    (ha:s₁.heap.get? a = some { cls:=.type "list", data:=.seq vs.toArray }) (hi:IntsAre vs ns) (hl:ns.length ≤ sizeLine) (hr:Room k callerA)
    (F:∀ base:Heap,K.In base → base.Ns mainGlobals mg → FnOk P w K mg base CX k fa fd [x] sp) (hbind:∀ (s:Shared) (u:Value),BindsTo s fd ⟨[u],[]⟩ [(x,u)])
    (hsp:∀ H:Hp,ZlX H → SqL K H a (ns.map V.int) → sp [.ref a] H (fun v _ => v = .bl true) fun _ _ _ => False)
    (hCX:∀ H e s',CX [] H s₁ (fun _ _ _ => False) e s' → False) :
    codeAny (model P w) callerA (.call (.ref fa) ⟨[.ref a],[]⟩) (fun r s' => r = .ok (.ret (.bool true)) ∧ OldK s₁.heap s'.heap ∧ s'.os = s₁.os ∧ AllBare s'.gens) s₁:=by
  have rv:=Zfs hi
  have lenV:=hi.length
  have core:∀ H:Hp,ZlX H → SqL K H a (ns.map V.int) → HOk P w H s₁.heap → (∀ b,H b ≠ none → b = a) → (H a ≠ none → K.lookup a = none) →
      codeAny (model P w) callerA (.call (.ref fa) ⟨[.ref a],[]⟩) (fun r s' => r = .ok (.ret (.bool true)) ∧ OldK s₁.heap s'.heap ∧ s'.os = s₁.os ∧ AllBare s'.gens) s₁:=by
    intro H hO hS hok hA hK
    have base_of:∀ {b:Addr} {o:Obj},s₁.heap.get? b = some o → H b = none → (Zi6 s₁.heap H).get? b = some o:=fun e n => Zi7 e n
    have noA:∀ {b:Addr} {o:Obj} {es:Array DictEntry} {ep:Nat},s₁.heap.get? b = some o → o.data = .dict es ep → H b = none:=fun {b o es ep} e d => by
      cases q:H b with
      | none => rfl
      | some u =>
        have e':b = a:=hA b (by rw [q]; simp)
        subst e'
        rw [ha] at e; cases e
        have d':Data.seq vs.toArray _ = Data.dict es ep:=d
        cases d'
    have nsK:∀ {b:Addr} {m:Str → Option Value},s₁.heap.Ns b m → (Zi6 s₁.heap H).Ns b m:=fun {b m} ⟨o,es,ep,e,d,r⟩ => ⟨o,es,ep,base_of e (noA e d),d,r⟩
    have hKb:K.In (Zi6 s₁.heap H):=fun b o e => base_of (KX b o e) (by
      cases q:H b with
      | none => rfl
      | some u =>
        have e':b = a:=hA b (by rw [q]; simp)
        subst e'
        rw [hK (by rw [q]; simp)] at e; cases e)
    have hM:Mod K mg (Zi6 s₁.heap H):=⟨hKb,nsK hns,⟨mb,nsK hb,hbb⟩,let ⟨mc,h1,h2⟩:=hlim; ⟨mc,nsK h1,h2⟩⟩
    have e0:Env0 P w K mg (Zi6 s₁.heap H) callerA [] s₁ H:=⟨rfl,hM,fun b o e => Zki e,Nat.le_of_eq (ZhI _ _),trivial,fun b hb => absurd (show b ∈ ([]:List Addr) from hb) (by simp),hok,.of_eq hg⟩
    refine codeAny_mono ((F _ hKb (nsK hns)).run callerA [] s₁ H ⟨[.ref a],[]⟩ [.ref a] [.ref a] _ _ hr e0 (hbind s₁ (.ref a)) (.cons rfl .nil) (hsp H hO hS)) fun r s' h => ?_
    cases r with
    | error e => exact (hCX H e s' h).elim
    | ok fl =>
      cases fl with
      | next => exact False.elim h
      | brk => exact False.elim h
      | cont => exact False.elim h
      | ret u =>
        obtain ⟨v,H',os,bare,un,hok',r',q⟩:=h
        have q':v = .bl true:=q
        subst q'
        obtain rfl:u = Value.bool true:=r'
        refine ⟨rfl,OldK.of_keep fun b o e => ?_,os,bare⟩
        cases q:H b with
        | none => exact un.keep b o e q (by intro z; exact absurd (show b ∈ ([]:List Addr) from z) (by simp)) (by simp)
        | some u =>
          rcases hO b with z | ⟨ob,xs,z⟩
          · rw [q] at z; cases z
          · have z2:=un.frzs b ob _ z
            obtain ⟨e1,_⟩:=hok b _ z
            obtain ⟨e2,_⟩:=hok' b _ z2
            rw [e] at e1; cases e1
            exact e2
  cases hk:K.lookup a with
  | some o =>
    have e:=KX a o hk
    rw [ha] at e
    cases e
    refine core (fun _ => none) (fun _ => .inl rfl) (.inr ⟨_,vs.toArray,_,hk,rfl,rfl,rfl,by rw [List.size_toArray,lenV]; exact hl,by simpa using rv⟩) (fun b u z => by have z':(none:Option HO) = some u:=z; cases z') (fun b z => absurd rfl z) fun z => absurd rfl z
  | none =>
    refine core (fun b => if b = a then some (.frz { cls:=.type "list", data:=.seq vs.toArray } (.lst (ns.map V.int))) else none) (fun b => ?_) (.inl (.inr ⟨{ cls:=.type "list", data:=.seq vs.toArray },if_pos rfl⟩)) (fun b u z => ?_) (fun b z => ?_) fun _ => hk
    · by_cases hb:b = a
      · exact .inr ⟨_,_,if_pos hb⟩
      · exact .inl (if_neg hb)
    · by_cases hb:b = a
      · have z':=(if_pos hb).symm.trans z
        cases z'
        subst hb
        exact ⟨ha,by rw [List.length_map]; exact hl,vs,_,rv,ha⟩
      · have z':=(if_neg hb).symm.trans z
        cases z'
    · by_cases hb:b = a
      · exact hb
      · exact absurd (if_neg hb) z
end L2
namespace L2
open PySem PySem.Spec PyProof.Rows
abbrev KOf {K:PySem.W.Frag} {h:Heap} (_:K.In h):PySem.W.Frag:=K
theorem walk_of {l:PySem.W.OpenLaw} {n k:Nat} {q:Program} {loose:List Str} {XP:(Str → Option Value) → Heap → Prop} {YP:World → Heap → Prop} {d:DefRec} {K:Params → PySem.W.Frag} {CX:World → CXT} {sp:World → Sp} {x:Str}
    (hn:l.most = some n) (hn2:n ≤ sizeLine) (hdf:d.params.defaults = []) (hr:Room k callerA)
    (hY:∀ (w:World) (h:Heap),YP w h → (K w.params).In h)
    (F:∀ (w:World) (mg:Str → Option Value) (fa:Addr) (h:Heap),(K w.params).In h → h.Ns mainGlobals mg → mg d.name = some (.ref fa) →
      ∃ fd:FuncData,(∀ (s:Shared) (u:Value),BindsTo s fd ⟨[u],[]⟩ [(x,u)]) ∧
        ∀ base:Heap,(K w.params).In base → base.Ns mainGlobals mg → FnOk l.prog w (K w.params) mg base (CX w) k fa fd [x] (sp w))
    (hsp:∀ (w:World) (H:Hp) (a:Addr) (ns:List Int),ns.length ≤ n → ZlX H → SqL (K w.params) H a (ns.map V.int) → sp w [.ref a] H (fun v _ => v = .bl true) fun _ _ _ => False)
    (hCX:∀ (w:World) (H:Hp) (s:Shared) (e:Value) (s':Shared),CX w [] H s (fun _ _ _ => False) e s' → False) :
    PySem.W.WalkO q loose XP YP l.row.toRowW d [] (fun f vs => PySem.call f vs):=by
  refine Att.attach_call hn hdf fun w s₀ s₁ mg mb fa o pm cd doc a vs ns G Y ho hd hcd hmg hobj hints hlen hg => ?_
  have KX:=hY w _ Y
  obtain ⟨fd,hb,hF⟩:=F w mg fa _ KX G.T.g hmg
  exact ZgG KX G.T.g G.T.b G.T.builtins G.T.nolimit hg hobj hints (Nat.le_trans hlen hn2) hr hF hb (fun H hO hS => hsp w H a ns hlen hO hS) fun H e s' => hCX w H s₁ e s'
end L2
/- THE LAST THEOREM (shape; LID,My.* are yours):
   My.Adr: a structure of the addresses that your layer names (classes,functions); My.Txt K t: a structure (Prop) of the equations over K;
   My.txt_mk:{K} {implicit addresses ..} (e1:nsIn K mainGlobals "law" = some (some (.ref f))) (e2:K.lookup f = some ⟨oc,od,.func (fnOf "law" "law" params body scope dV kV doc pm an cdv ct),sl⟩) (e3:codeIn K cdv "law" = true) ..:∃ t,My.Txt K t
set_option maxRecDepth 100000 in
set_option maxHeartbeats 0 in
theorem PySem.Challenge.cw_LID_holds : PySem.Challenge.rw_LID.Holds := by
  w_on; o_law; k_head; (case hw => w_witness2)
  k_fill
  refine L2.walk_of (l:=PySem.Challenge.rw_LID) (n:=63) (k:=40) (x := "script") (CX:=fun w => ..) (sp:=fun _ => My.sp_law) rfl (by decide) rfl ⟨rfl,by decide,by decide⟩ (fun w h Y => PySem.W.kIn_of Y) ?F ?S ?C
  case F =>
    intro w mg fa h KX G hmg
    have T:∃ t,My.Txt (L2.KOf KX) t:=by
      dsimp only [L2.KOf]                          -- K must stand as «<heap const> w.params» for k_is
      refine' My.txt_mk ?e1 ?e2 ?e3 ..
      (case e1 => PySem.W.k_is)                    -- in the order: a name -> its address -> its object -> its parts
      (case e2 => PySem.W.k_is)
      ..
    obtain ⟨t,T⟩:=T
    have e0:=hmg.symm.trans (PySem.W.mg_of KX G T.law)
    cases e0                                       -- fa is the law's own address
    exact ⟨_,fun s u => .of_eq rfl,fun base kb nb => My.law_fn T kb nb⟩     -- if «.of_eq rfl» comes too early: refine' ⟨_,?b,fun base kb nb => My.law_fn T kb nb⟩; exact fun s u => .of_eq rfl
  case S => exact fun w H a ns hl hO hS => ..
  case C => exact ..
(the tactic k_is has no namespace: write k_is) -/
namespace L2
open PySem PySem.Spec PyProof.Rows
def Zay (s:Stmt) (j:Nat):Stmt:=match s with
  | .ClassDef _ _ _ body _ _ _ _ _ _ _ => body.getD j (.Pass ⟨0,0,0,0⟩)
  | _ => .Pass ⟨0,0,0,0⟩
def ZbP (s:Stmt):Arguments:=match s with
  | .FunctionDef _ a _ _ _ _ _ _ _ _ => a
  | _ => { posonlyargs:=[],args:=[],vararg:=none,kwonlyargs:=[],kw_defaults:=[],kwarg:=none,defaults:=[] }
def Za5 (s:Stmt):List Stmt:=match s with
  | .FunctionDef _ _ b _ _ _ _ _ _ _ => b
  | _ => []
def Zag (s:Stmt):Scope:=match s with
  | .FunctionDef _ _ _ _ _ _ sc _ _ _ => sc
  | _ => { kind:=.function,names:=[],isGenerator:=false,isCoroutine:=false }
abbrev CX0:CXT:=fun _ _ _ _ _ _ => False
abbrev E0:XK:=fun _ _ _ => False
theorem Zku {X:Cx}:Zfl CX0 X E0:=fun _ _ _ _ _ _ _ h => h.elim
structure Fun (K:PySem.W.Frag) (x qual:Str) (st:Stmt) (f:Addr) (fd:FuncData):Prop where
  ex:∃ (oc:Value) (od:Option Addr) (kV doc pm:Value) (an:Option Addr) (cdv ct:Value) (osl:Array (Option Value)),
    fd = PySem.W.fnOf x qual (ZbP st) (Za5 st) (Zag st) .none kV doc pm an cdv ct ∧ K.lookup f = some ⟨oc,od,.func fd,osl⟩ ∧ PySem.W.codeIn K cdv qual = true
  kp:PySem.W.keepIn K (.ref f) = true
section
variable {P:Program} {w:World} {K:PySem.W.Frag} {mg:Str → Option Value} {base:Heap}
theorem Fun.ok {x qual:Str} {st:Stmt} {f:Addr} {fd:FuncData} {N ps:List Str} {k:Nat} {sp:Sp} (F:Fun K x qual st f fd) (S:FnScope N ps (Zag st)) (len:∀ vs H Q E,sp vs H Q E → vs.length = ps.length)
    (hbody:∀ (cdv:Value) (A:Around) (outer:List Env) (s:Shared) (H:Hp) (vs:List V) (Q:VK) (E:XK),Room k (A.deeper (envOfC qual (Zag st) s.heap.objs.size f cdv)) → sp vs H Q E →
      ∃ t,PSs (ZjW CX0 P w K mg base N qual (Zag st) f cdv A outer s H E).nox (Za5 st) t ∧ t { nx:=fun _ H' => Q .non H',rt:=Q } (start N vs) H):FnOk P w K mg base CX0 (k + 1) f fd ps sp:=by
  obtain ⟨oc,od,kV,doc,pm,an,cdv,ct,osl,rfl,lk,hcd⟩:=F.ex
  refine Zje lk hcd S len fun A outer s H vs Q E hr hsp => ?_
  obtain ⟨t,h,q⟩:=hbody cdv A outer s H vs Q E hr hsp
  exact ⟨t,h.nox,q⟩
theorem Fun.binds {x qual:Str} {st:Stmt} {f:Addr} {fd:FuncData} {ps:List Str} (F:Fun K x qual st f fd)
    (h:∀ (kV doc pm:Value) (an:Option Addr) (cdv ct:Value) (us:List Value),us.length = ps.length → bindArgs (PySem.W.fnOf x qual (ZbP st) (Za5 st) (Zag st) .none kV doc pm an cdv ct) ⟨us,[]⟩ = pure (ps.zip us)):Binds K fd ps []:=by
  obtain ⟨oc,od,kV,doc,pm,an,cdv,ct,osl,rfl,lk,hcd⟩:=F.ex
  exact .all (h kV doc pm an cdv ct)
theorem Zh0 {x qual:Str} {st:Stmt} {f:Addr} {oc:Value} {od an:Option Addr} {osl:Array (Option Value)} {kV doc pm cdv ct:Value} (l:K.lookup f = some ⟨oc,od,.func (PySem.W.fnOf x qual (ZbP st) (Za5 st) (Zag st) .none kV doc pm an cdv ct),osl⟩)
    (c:PySem.W.codeIn K cdv qual = true) (k:PySem.W.keepIn K (.ref f) = true):Fun K x qual st f (PySem.W.fnOf x qual (ZbP st) (Za5 st) (Zag st) .none kV doc pm an cdv ct):=⟨⟨oc,od,kV,doc,pm,an,cdv,ct,osl,rfl,l,c⟩,k⟩
end
theorem ZcT {n:Nat} (h:n ≤ 1000):n < sizeLine:=Nat.lt_of_le_of_lt h (by decide)
section
variable {X:Cx}
theorem pv (i:Nat) {x:Str} {pos:Pos} (hN:X.N[i]? = some x:=by rfl) (hv:Vis X.env.scope x:=by first | exact Or.inl rfl | exact Or.inr (Or.inl rfl) | exact Or.inr (Or.inr rfl)) (hd:(x == ("__debug__" : Str)) = false:=by decide)
    (hcd:(x == ("__classdict__" : Str)) = false:=by decide):PE X (.Name x pos) (Zmy i):=Zla hN hv hd hcd
end
theorem ZbE {A B:Prop} (h:B):if false = true then A else B:=by
  rw [if_neg Bool.false_ne_true]
  exact h
theorem Zei {A B:Prop} (h:A):if true = true then A else B:=by
  rw [if_pos rfl]
  exact h
theorem Zm4 {c A B:Prop} [Decidable c] (h1:c → A) (h2:¬ c → B):if c then A else B:=by
  by_cases h:c
  · rw [if_pos h]
    exact h1 h
  · rw [if_neg h]
    exact h2 h
def Same (H H':Hp):Prop:=∀ b o,H b = some o → H' b = some o
theorem Same.refl (H:Hp):Same H H:=fun _ _ h => h
theorem Same.trans {H H1 H2:Hp} (a:Same H H1) (b:Same H1 H2):Same H H2:=fun c o h => b c o (a c o h)
theorem Same.free {H H':Hp} (e:Same H H') {l:Addr} (h:H' l = Option.none):H l = Option.none:=by
  cases q:H l with
  | none => rfl
  | some o =>
    rw [e l o q] at h
    cases h
theorem Same.seq {K:PySem.W.Frag} {H H':Hp} {a:Addr} {xs:List V} (e:Same H H') (h:SqL K H a xs):SqL K H' a xs:=by
  rcases h with (h | ⟨o,h⟩) | h
  · exact .inl (.inl (e _ _ h))
  · exact .inl (.inr ⟨o,e _ _ h⟩)
  · exact .inr h
end L2
set_option maxHeartbeats 4000000
namespace L2
open PySem PySem.Spec PyProof.Rows
theorem ZcI {k:Int} {n:Nat} (h:k.natAbs < 2 ^ n):Builtin.Int.intBits k ≤ n:=by
  unfold Builtin.Int.intBits
  split
  · exact Nat.zero_le _
  · rename_i h0
    have hk:k.natAbs ≠ 0:=by
      intro z
      apply h0
      have:k = 0:=by omega
      simp [this]
    have:k.natAbs.log2 < n:=(Nat.log2_lt hk).mpr h
    omega
theorem Zf1:10 ^ 150 < 2 ^ 600:=by decide +kernel
theorem Za6 {i j:Int} (h:i.natAbs ≤ 10 ^ 150) (h':j.natAbs ≤ 10 ^ 150):IntMulOk i j :=
  .of_bits (Nat.le_trans (ZcI (n:=600) (Nat.lt_of_le_of_lt h Zf1)) (by decide)) (Nat.le_trans (ZcI (n:=600) (Nat.lt_of_le_of_lt h' Zf1)) (by decide))
theorem Zkv {j:Int} (h:j.natAbs ≤ 10 ^ 150):j.natAbs.log2 < 9000:=by
  rcases Nat.eq_zero_or_pos j.natAbs with z | z
  · rw [z]; decide
  · exact Nat.lt_trans ((Nat.log2_lt (Nat.ne_of_gt z)).mpr (Nat.lt_of_le_of_lt h Zf1)) (by decide)
section
variable {X:Cx}
theorem Zaz:OpR X (binaryOp .Mult) (rI IntMulOk fun i j => .int (i * j)):=opI fun _ _ _ _ _ _ _ hc q => mul_int q hc
theorem ZeL:OpR X (binaryOp .FloorDiv) (rI (fun _ j => j ≠ 0 ∧ j.natAbs ≤ 10 ^ 150) fun i j => .int (i.fdiv j)):=opI fun _ _ _ _ _ _ _ hc q => floordiv_int hc.1 q (.inl (PyProof.noPylong_of_log2 (Zkv hc.2)))
theorem Zdu {x:Str} {T:String} {pos:Pos} (hg:Gl X x) (hm:X.mg x = none) (hv:bootBuiltins x = some (.type T)) (hn:x ≠ "__name__" := by decide) (hd:(x == ("__debug__" : Str)) = false:=by decide):PE X (.Name x pos) (tC (.ty T)):=Zkk hg hm hv rfl hn hd
theorem ZbZ:CallR X (.builtin "isinstance") (fun xs H Q => ∃ x T t b,xs = [x,.ty T] ∧ TyOf X.K H x t ∧ PySem.W.kitOne X.K t (.type T) = some b ∧ Q (.bl b) H):=by
  intro pins s σ H xs us Q I r h
  obtain ⟨x,T,t,b,rfl,ty,hk,q⟩:=h
  obtain ⟨u,w',rfl,r1,r2⟩:=ZhQ r
  cases r2
  exact ZhV I r1 ty hk fun tk => ⟨.bl b,H,I.tok _,rfl,q⟩
end
theorem Za7 (K:PySem.W.Frag) (t:Value) (h:(t == t) = true:=by rfl):PySem.W.kitOne K t t = some true:=by
  unfold PySem.W.kitOne
  rw [if_pos h]
theorem ZeM (K:PySem.W.Frag) {t T:String} {b:Bool} (h0:((Value.type t) == (Value.type T)) = false) (h1:PySem.W.kitMeta T = true) (h:(PySem.fastBuiltinMro t).map (·.contains (Value.type T)) = some b):PySem.W.kitOne K (.type t) (.type T) = some b:=by
  unfold PySem.W.kitOne PySem.W.kitCls
  rw [if_neg (by rw [h0]; exact Bool.false_ne_true)]
  show (if PySem.W.kitMeta T = true then PySem.W.subIn K (Value.type t) (Value.type T) else none) = some b
  rw [if_pos h1]
  exact h
theorem Zcg (K:PySem.W.Frag):PySem.W.kitOne K (.type "int") (.type "bool") = some false:=ZeM K (by decide +kernel) (by decide +kernel) (by decide +kernel)
theorem Zft (K:PySem.W.Frag):PySem.W.kitOne K (.type "bool") (.type "int") = some true:=ZeM K (by decide +kernel) (by decide +kernel) (by decide +kernel)
section
variable {A B:Prop}
theorem ZbI {p:Prop} [Decidable p] (h1:p → A) (h2:¬ p → B):if decide p = true then A else B:=Zm4 (fun c => h1 (of_decide_eq_true c)) fun c => h2 (of_decide_eq_false (Bool.eq_false_iff.mpr c))
theorem Zf2 {p:Prop} [Decidable p] (h1:¬ p → A) (h2:p → B):if (!decide p) = true then A else B:=by
  by_cases h:p
  · rw [decide_eq_true h]; exact ZbE (h2 h)
  · rw [decide_eq_false h]; exact Zei (h1 h)
theorem ZbD {a b:Int} (h1:a = b → A) (h2:a ≠ b → B):if decide (V.int a = V.int b) = true then A else B:=ZbI (fun e => h1 (V.int.inj e)) fun e => h2 fun z => e (by rw [z])
theorem Zdo {a b:Int} (h1:a ≠ b → A) (h2:a = b → B):if (!decide (V.int a = V.int b)) = true then A else B:=Zf2 (fun e => h1 fun z => e (by rw [z])) fun e => h2 (V.int.inj e)
end
theorem Zjg {a b:Int} (h:a = b):decide (V.int a = V.int b) = true:=decide_eq_true (by rw [h])
theorem ZeN (a b:Int):decide (V.int a = V.int b) = decide (a = b):=by
  by_cases h:a = b
  · rw [decide_eq_true h,Zjg h]
  · rw [decide_eq_false h,decide_eq_false fun z => h (V.int.inj z)]
structure Here (K:PySem.W.Frag) (mg:Str → Option Value) (x:Str) (st:Stmt):Prop where
  ex:∃ (f:Addr) (fd:FuncData),Fun K x x st f fd ∧ mg x = some (.ref f)
structure Has (P:Program) (w:World) (K:PySem.W.Frag) (mg:Str → Option Value) (base:Heap) (x:Str) (k:Nat) (ps:List Str) (sp:Sp):Prop where
  ex:∃ (f:Addr) (fd:FuncData),FnOk P w K mg base CX0 k f fd ps sp ∧ mg x = some (.ref f) ∧ PySem.W.keepIn K (.ref f) = true ∧ Binds K fd ps []
section
variable {P:Program} {w:World} {K:PySem.W.Frag} {mg:Str → Option Value} {base:Heap} {x:Str} {st:Stmt} {k j:Nat} {ps:List Str} {sp:Sp}
theorem Has.mono (h:Has P w K mg base x j ps sp) (e:j ≤ k):Has P w K mg base x k ps sp :=
  let ⟨f,fd,a,b,c,d⟩:=h.ex
  ⟨f,fd,a.mono e,b,c,d⟩
theorem Here.has (h:Here K mg x st) (b:∀ f fd,Fun K x x st f fd → Binds K fd ps []) (ok:∀ f fd,Fun K x x st f fd → FnOk P w K mg base CX0 k f fd ps sp):Has P w K mg base x k ps sp :=
  let ⟨f,fd,F,m⟩:=h.ex
  ⟨f,fd,ok f fd F,m,F.kp,b f fd F⟩
theorem here_mk {h:Heap} {f:Addr} {oc:Value} {od an:Option Addr} {osl:Array (Option Value)} {kV doc pm cdv ct:Value} (X:K.In h) (G:h.Ns mainGlobals mg) (a:PySem.W.nsIn K mainGlobals x = some (some (.ref f)))
    (l:K.lookup f = some ⟨oc,od,.func (PySem.W.fnOf x x (ZbP st) (Za5 st) (Zag st) .none kV doc pm an cdv ct),osl⟩)
    (c:PySem.W.codeIn K cdv x = true) (k:PySem.W.keepIn K (.ref f) = true):Here K mg x st:=⟨f,_,Zh0 l c k,PySem.W.mg_of X G a⟩
end
theorem Zam {X:Cx} {x:Str} {k:Nat} {ps:List Str} {sp:Sp} {e:Expr} {es:List Expr} {t:TA} {p pos:Pos} (h:Has X.prog X.w X.K X.mg X.base x k ps sp) (hr:Room k X.A) (hg:Gl X x) (ha:PA X (e :: es) t) (hdb:(x == ("__debug__" : Str)) = false:=by decide)
    (he:starEach (e :: es) X.env = (false,eval e X.env) :: starEach es X.env:=by rfl) (hpl:(backTo pos (starEach es X.env)).any (·.1) = false:=by rfl):PE X (.Call (.Name x p) (e :: es) [] pos) (Zll sp [] E0 t):=by
  obtain ⟨f,fd,F,hm,hk,hb⟩:=h.ex
  exact Zkp F hr hg hm hk hb .nil Zku ha hdb he hpl
theorem Zah {H:Hp} {p:Addr} (h:H p = none) (o:HO):Same H (upd H p o):=fun b u q => by rw [Zat (Zav q h)]; exact q
theorem Same.tup {K:PySem.W.Frag} {H H':Hp} {a:Addr} {xs:List V} (e:Same H H') (h:SqT K H a xs):SqT K H' a xs:=by
  rcases h with (h | ⟨o,h⟩) | h
  · exact .inl (.inl (e _ _ h))
  · exact .inl (.inr ⟨o,e _ _ h⟩)
  · exact .inr h
end L2
namespace L2
open PySem PySem.Spec PyProof.Rows
def Zhi (cells:List (Str × Addr)):List (Str × NameKind) → List (Str × Addr) → List (Str × Addr)
  | [],cs => cs
  | (n,k) :: r,cs => Zhi cells r (if k = NameKind.free then (match cells.lookup n with | some a => (n,a) :: cs | none => cs) else cs)
theorem ZeO {cells:List (Str × Addr)}:∀ (ns:List (Str × NameKind)) (cs:List (Str × Addr)),(∀ p ∈ cs,cells.lookup p.1 = some p.2) → ∀ p ∈ Zhi cells ns cs,cells.lookup p.1 = some p.2
  | [],_,h => h
  | (n,k) :: r,cs,h => by
    refine ZeO r _ fun p hp => ?_
    by_cases hk:k = NameKind.free
    · rw [if_pos hk] at hp
      cases e:cells.lookup n with
      | none => rw [e] at hp; exact h p hp
      | some a =>
        rw [e] at hp
        rcases List.mem_cons.mp hp with rfl | hp
        · exact e
        · exact h p hp
    · rw [if_neg hk] at hp
      exact h p hp
theorem ZgH {cells:List (Str × Addr)}:∀ (ns:List (Str × NameKind)) (cs:List (Str × Addr)),∀ p ∈ cs,p ∈ Zhi cells ns cs
  | [],_,_,h => h
  | (n,k) :: r,cs,p,h => by
    refine ZgH r _ p ?_
    by_cases hk:k = NameKind.free
    · rw [if_pos hk]
      cases e:cells.lookup n with
      | none => exact h
      | some a => exact List.mem_cons_of_mem _ h
    · rw [if_neg hk]; exact h
theorem ZeP {cells:List (Str × Addr)} {x:Str}:∀ (ns:List (Str × NameKind)) (cs:List (Str × Addr)),(x,NameKind.free) ∈ ns → (∃ c,cells.lookup x = some c) → ∃ c,(x,c) ∈ Zhi cells ns cs
  | (n,k) :: r,cs,h,hc => by
    rcases List.mem_cons.mp h with e | h
    · cases e
      obtain ⟨c,hc⟩:=hc
      refine ⟨c,ZgH r _ _ ?_⟩
      rw [if_pos rfl,hc]
      exact List.mem_cons_self
    · exact ZeP r _ h hc
theorem Zb0 {β:Type} {x:Str} {c:β}:∀ {l:List (Str × β)},(x,c) ∈ l → ∃ d,l.lookup x = some d
  | (n,a) :: r,h => by
    by_cases hx:x = n
    · exact ⟨a,by simp [List.lookup_cons,hx]⟩
    · rcases List.mem_cons.mp h with e | h
      · cases e; exact absurd rfl hx
      · obtain ⟨d,hd⟩:=Zb0 h
        refine ⟨d,?_⟩
        have hb:(x == n) = false:=beq_eq_false_iff_ne.mpr hx
        simp only [List.lookup_cons,hb]
        exact hd
theorem Zer {env:Env} {α:Type} (k:List (Str × Addr) → Sem α):∀ (ns:List (Str × NameKind)) (cs:List (Str × Addr)),(∀ y,(y,NameKind.free) ∈ ns → ∃ c,env.cells.lookup y = some c) →
    (forIn ns cs (fun (x:Str × NameKind) (r:List (Str × Addr)) => if (x.2 == NameKind.free) = true then (do let a ← cellOf env x.1; pure (ForInStep.yield ((x.1,a) :: r))) else pure (ForInStep.yield r)):Sem _) = pure (Zhi env.cells ns cs)
  | [],cs,_ => rfl
  | (n,kd) :: r,cs,h => by
    have ih:=fun cs => Zer k r cs fun y hy => h y (List.mem_cons_of_mem _ hy)
    rw [List.forIn_cons]
    by_cases hk:kd = NameKind.free
    · subst hk
      obtain ⟨c,hc⟩:=h n List.mem_cons_self
      show ((cellOf env n >>= fun a => pure (ForInStep.yield ((n,a) :: cs))) >>= _:Sem _) = _
      have hce:cellOf env n = pure c:=by unfold cellOf; rw [hc]
      rw [hce]
      show (forIn r ((n,c) :: cs) _:Sem _) = _
      rw [ih]
      show _ = pure (Zhi env.cells r (if NameKind.free = NameKind.free then (match env.cells.lookup n with | some a => (n,a) :: cs | none => cs) else cs))
      rw [if_pos rfl,hc]
    · have hb:(kd == NameKind.free) = false:=by simpa using hk
      show ((if (kd == NameKind.free) = true then (do let a ← cellOf env n; pure (ForInStep.yield ((n,a) :: cs))) else pure (ForInStep.yield cs)) >>= _:Sem _) = _
      rw [hb,if_neg Bool.false_ne_true]
      show (forIn r cs _:Sem _) = _
      rw [ih]
      show _ = pure (Zhi env.cells r (if kd = NameKind.free then _ else cs))
      rw [if_neg hk]
theorem Zes {scope:Scope} {env:Env} (h:∀ y,(y,NameKind.free) ∈ scope.names → ∃ c,env.cells.lookup y = some c):closureFor scope env = pure (Zhi env.cells scope.names []):=by
  unfold closureFor
  have:=Zer (env:=env) (α:=List (Str × Addr)) pure scope.names [] h
  show (forIn scope.names [] (fun (x:Str × NameKind) (r:List (Str × Addr)) => if (x.2 == NameKind.free) = true then (do let a ← cellOf env x.1; pure (ForInStep.yield ((x.1,a) :: r))) else pure (ForInStep.yield r)) >>= fun cs => pure cs:Sem _) = _
  rw [this]
  rfl
theorem ZgI {scope:Scope} {env:Env} (h:(scope.names.all fun y => !(y.2 == NameKind.free) || (env.cells.lookup y.1).isSome) = true):∀ y,(y,NameKind.free) ∈ scope.names → ∃ c,env.cells.lookup y = some c:=fun y hy => by
  have e:(env.cells.lookup y).isSome = true:=List.all_eq_true.mp h (y,NameKind.free) hy
  exact Option.isSome_iff_exists.mp e
def CapsOk (X:Cx) (scope:Scope):List (Nat × Str) → Prop
  | [] => True
  | p :: r => (X.N[p.1]? = some p.2 ∧ scope.names.lookup p.2 = some .free ∧ (X.env.kindOf p.2 = some .cell ∨ X.env.kindOf p.2 = some .free)) ∧ CapsOk X scope r
theorem CapsOk.mem {X:Cx} {scope:Scope}:∀ {caps:List (Nat × Str)},CapsOk X scope caps → ∀ p ∈ caps,X.N[p.1]? = some p.2 ∧ scope.names.lookup p.2 = some .free ∧ (X.env.kindOf p.2 = some .cell ∨ X.env.kindOf p.2 = some .free)
  | [],_,_,h => nomatch h
  | _ :: _,⟨h1,h2⟩,p,h => by
    rcases List.mem_cons.mp h with rfl | h
    · exact h1
    · exact h2.mem p h
def ZcU (X:Cx) (scope:Scope) (N:List Str) (s₀:Shared) (H₀:Hp) (C:Addr) (fp:List Addr):Cx where
  prog:=X.prog
  w:=X.w
  K:=X.K
  mg:=X.mg
  base:=X.base
  A:=X.A
  N:=N
  s₀:=s₀
  H₀:=H₀
  env:=compEnvC scope (Zhi X.env.cells scope.names []) C X.env
  outer:=X.stack
  stack:=X.stack
  ex:=fp
  fn:=fun _ => false
  calm:=X.calm
  pn:=[]
  xe:=fun _ _ => False
def st0 (k:Nat) (caps:List (Nat × Str)) (σ:St):St:=List.replicate k none ++ caps.map fun p => (σ[p.1]?).join
theorem Zfu {prog:Program} {w:World} {A:Around} {R:Result → Shared → Prop} {s:Shared} {elt target iter:Expr} {scope:Scope} {pos:Pos} {it acc:Value} {env:Env} (I:Nat → Shared → Prop)
    (turn:∀ n s,I n s → wpAny (model prog w) A (pyNext it) (fun r s₁ => match r with
      | none => R (.ok .next) s₁
      | some v => wpAny (model prog w) A (letOwnedTupleGo target it v) (fun _ s₁ => wpAny (model prog w) A (assign target env v) (fun _ s₂ => wpAny (model prog w) A (eval elt env) (fun x s₃ =>
          wpAny (model prog w) A (call (.builtin "list.append") [acc,x]) (fun _ s₄ => ∃ m,m < n ∧ I m s₄) (fun _ _ => False) s₃)
          (fun _ _ => False) s₂) (fun _ _ => False) s₁) (fun _ _ => False) s₁) (fun _ _ => False) s)
    (n:Nat) (h:I n s) :
    codeAny (model prog w) A (.compLoop (.ListComp elt [⟨target,iter,[],0⟩] scope pos) 0 it acc env) R s:=by
  refine codeAny_loop rfl I (fun n s hI => ?_) n h
  show wpAny _ _ ((compTurn (.ListComp elt [⟨target,iter,[],0⟩] scope pos) 0 it acc env).onRaise (fun x => do noteFrame x env; theTreesLotGoes x)) _ _ s
  refine wpAny_noted ?_
  rw [compTurn_list1]
  refine wpAny_bind (wpAny_standAt (wpAny_bind (wpAny_mono (turn n s hI) (fun r s₁ h₁ => ?_) fun _ _ h' => False.elim h')))
  cases r with
  | none => exact wpAny_pure h₁
  | some v =>
    refine wpAny_bind (wpAny_mono h₁ (fun _ s₁ h₁ => ?_) fun _ _ h' => False.elim h')
    exact wpAny_bind (wpAny_mono h₁ (fun _ s₂ h₂ => wpAny_bind (wpAny_bind (wpAny_mono h₂ (fun x s₃ h₃ => wpAny_bind (wpAny_mono h₃
      (fun _ s₄ h₄ => wpAny_pure (wpAny_pure ⟨rfl,h₄⟩)) fun _ _ h' => False.elim h')) fun _ _ h' => False.elim h'))) fun _ _ h' => False.elim h')
def Zfv (k:Nat) (caps:List (Nat × Str)) (g:TG) (te:TE) (σ:St) (J:It) (H:Hp) (Q:List V → Hp → Prop):Prop :=
  ∃ W:Nat → Nat → List V → Hp → Prop,(∃ m,W 0 m [] H) ∧ ∀ i m ys H',W i m ys H' → ys.length ≤ sizeLine ∧ ((J.stop i H' ∧ Q ys H') ∨
    (J.go i H' ∧ ys.length < sizeLine ∧ ∃ N:V → Hp → Prop,(∀ v H4,N v H4 → ∃ m',m' < m ∧ W (i + 1) m' (ys ++ [v]) H4) ∧
      ∀ x H2,J.yld i H' x H2 → g x (st0 k caps σ) H2 fun σ2 H3 => (∀ (i:Nat) v,(st0 k caps σ)[i]? = some (some v) → σ2[i]? = some (some v)) ∧ te σ2 H3 N))
def Zlo (k:Nat) (caps:List (Nat × Str)) (wi:TI) (g:TG) (te:TE):TE:=fun σ H Q => wi σ H fun J H1 => Zfv k caps g te σ J H1 fun ys H2 => ∀ D,H2 D = none → Q (.ref D) (upd H2 D (.lst ys))
section
variable {X:Cx} {tg iter elt:Expr} {scope:Scope} {pos:Pos} {wi:TI} {g:TG} {te:TE} {own:List Str} {caps:List (Nat × Str)}
theorem Zfw {scope:Scope} {env:Env} {x:Str} (hx:scope.names.lookup x = some .free):(relabel scope env).names.lookup x = some .cell ∨ (relabel scope env).names.lookup x = some .free:=by
  unfold relabel
  show (scope.names.map _).lookup x = _ ∨ (scope.names.map _).lookup x = _
  generalize scope.names = ns at hx
  induction ns with
  | nil => simp at hx
  | cons p r ih =>
    obtain ⟨n,k⟩:=p
    rw [List.map_cons]
    by_cases hn:x = n
    · subst hn
      simp only [List.lookup_cons,beq_self_eq_true] at hx
      cases hx
      by_cases hc:((NameKind.free == NameKind.free) && env.scope.kind == .function && env.kindOf x == some .cell) = true
      · left
        show List.lookup x ((if _ = true then (x,NameKind.cell) else (x,NameKind.free)) :: _) = _
        rw [if_pos hc]
        simp [List.lookup_cons]
      · right
        show List.lookup x ((if _ = true then (x,NameKind.cell) else (x,NameKind.free)) :: _) = _
        rw [if_neg hc]
        simp [List.lookup_cons]
    · have hb:(x == n) = false:=beq_eq_false_iff_ne.mpr hn
      simp only [List.lookup_cons,hb] at hx
      have:=ih hx
      show List.lookup x ((if _ = true then (n,NameKind.cell) else (n,k)) :: _) = _ ∨ List.lookup x ((if _ = true then (n,NameKind.cell) else (n,k)) :: _) = _
      split <;> (simp only [List.lookup_cons,hb]; exact this)
theorem Zdp {scope:Scope} {env:Env} {x:Str} (hc:∀ y ∈ scope.names,y.2 ≠ .cell) (hx:(relabel scope env).names.lookup x = some .cell ∨ (relabel scope env).names.lookup x = some .free):(x,NameKind.free) ∈ scope.names:=by
  unfold relabel at hx
  have hx:(scope.names.map fun (n,k) => if (k == NameKind.free && env.scope.kind == .function && env.kindOf n == some .cell) then (n,NameKind.cell) else (n,k)).lookup x = some .cell ∨ (scope.names.map fun (n,k) => if (k == NameKind.free && env.scope.kind == .function && env.kindOf n == some .cell) then (n,NameKind.cell) else (n,k)).lookup x = some .free:=hx
  generalize scope.names = ns at hx hc
  induction ns with
  | nil => simp at hx
  | cons p r ih =>
    obtain ⟨n,k⟩:=p
    rw [List.map_cons] at hx
    have hr:=fun z => ih z (fun y hy => hc y (List.mem_cons_of_mem _ hy))
    by_cases hn:x = n
    · subst hn
      by_cases hk:k = NameKind.free
      · subst hk; exact List.mem_cons_self
      · have hb:(k == NameKind.free) = false:=by simpa using hk
        have hx':List.lookup x ((x,k) :: List.map (fun (p:Str × NameKind) => match p with | (n,k) => if (k == NameKind.free && env.scope.kind == .function && env.kindOf n == some .cell) = true then (n,NameKind.cell) else (n,k)) r) = some .cell ∨ List.lookup x ((x,k) :: List.map (fun (p:Str × NameKind) => match p with | (n,k) => if (k == NameKind.free && env.scope.kind == .function && env.kindOf n == some .cell) = true then (n,NameKind.cell) else (n,k)) r) = some .free:=by
          simpa [hb] using hx
        simp only [List.lookup_cons,beq_self_eq_true,Option.some.injEq] at hx'
        rcases hx' with e | e
        · exact absurd e (hc (x,k) List.mem_cons_self)
        · exact absurd e hk
    · have hb:(x == n) = false:=beq_eq_false_iff_ne.mpr hn
      refine List.mem_cons_of_mem _ (hr ?_)
      have hx2:List.lookup x ((if (k == NameKind.free && env.scope.kind == .function && env.kindOf n == some .cell) = true then (n,NameKind.cell) else (n,k)) :: List.map (fun (p:Str × NameKind) => match p with | (n,k) => if (k == NameKind.free && env.scope.kind == .function && env.kindOf n == some .cell) = true then (n,NameKind.cell) else (n,k)) r) = some .cell ∨ List.lookup x ((if (k == NameKind.free && env.scope.kind == .function && env.kindOf n == some .cell) = true then (n,NameKind.cell) else (n,k)) :: List.map (fun (p:Str × NameKind) => match p with | (n,k) => if (k == NameKind.free && env.scope.kind == .function && env.kindOf n == some .cell) = true then (n,NameKind.cell) else (n,k)) r) = some .free:=hx
      split at hx2 <;> (simp only [List.lookup_cons,hb] at hx2; exact hx2)
end
end L2
namespace L2
open PySem PySem.Spec PyProof.Rows
section
variable {X:Cx} {tg iter elt:Expr} {scope:Scope} {pos:Pos} {wi:TI} {g:TG} {te:TE} {own:List Str} {caps:List (Nat × Str)}
theorem Zh1 {pins:List (Addr × Obj)} {σ:St} {H:Hp} {s:Shared} {fp:List Addr} {C:Addr} {N:List Str} (I:Inv X pins σ H s) (hkind:scope.kind = .function) (hcell:∀ y ∈ scope.names,y.2 ≠ .cell)
    (hfree:∀ y,(y,NameKind.free) ∈ scope.names → ∃ c,X.env.cells.lookup y = some c) (hC:s.heap.objs.size ≤ C) (hf:∀ b ∈ fp,ZhK X pins H b) (hlt:∀ b ∈ fp,b < s.heap.objs.size):(ZcU X scope N s H C fp).Ok:=by
  have sub:∀ x c,(Zhi X.env.cells scope.names []).lookup x = some c → X.env.cells.lookup x = some c:=fun x c e => ZeO scope.names [] (fun p hp => (nomatch hp)) (x,c) (PySem.mem_of_lookup e)
  refine ⟨I.ok.mod,hkind,I.ok.glob,I.ok.blt,hC,fun x y c h1 h2 => I.ok.inj x y c (sub x c h1) (sub y c h2),fun x hx => ?_,fun x c h => (Bool.false_ne_true h).elim,I.ok.hd,I.ok.frames,.inl rfl,fun b hb => ⟨?_,fun x c e => (hf b hb).2.2.2.2.1 x c (sub x c e)⟩,I.bs,Nat.le_trans I.ok.bsz I.sz,fun b o e hb => ?_,fun b hb z => ?_,I.stack,I.stkFree⟩
  · obtain ⟨c,hc⟩:=ZeP scope.names [] (Zdp hcell hx) (hfree x (Zdp hcell hx))
    exact Zb0 hc
  · exact Nat.ne_of_lt (Nat.lt_of_lt_of_le (hlt b hb) hC)
  · rcases (hf b hb).2.2.2.1 with z | z
    · exact I.ok.noex b o e z
    · exact absurd (Nat.lt_of_lt_of_le (Heap.lt_size e) (Nat.le_trans I.ok.bsz z)) (Nat.lt_irrefl _)
  · rcases List.mem_cons.mp (I.stkSub b z) with e | e
    · exact (hf b hb).2.1 e
    · exact (hf b hb).2.2.1 e
theorem Zkw (k:Nat) (caps:List (Nat × Str)) (σ:St):(st0 k caps σ).length = k + caps.length:=by
  unfold st0
  rw [List.length_append,List.length_replicate,List.length_map]
theorem Zkx {k:Nat} {caps:List (Nat × Str)} {σ:St} {i:Nat} {v:V} (h:(st0 k caps σ)[i]? = some (some v)):k ≤ i ∧ ∃ p,caps[i - k]? = some p ∧ σ[p.1]? = some (some v):=by
  unfold st0 at h
  by_cases hi:i < k
  · rw [List.getElem?_append_left (by rw [List.length_replicate]; exact hi),List.getElem?_replicate,if_pos hi] at h
    cases h
  · have hk:k ≤ i:=Nat.not_lt.mp hi
    refine ⟨hk,?_⟩
    rw [List.getElem?_append_right (by rw [List.length_replicate]; exact hk),List.length_replicate,List.getElem?_map] at h
    cases e:caps[i - k]? with
    | none => rw [e] at h; cases h
    | some p =>
      rw [e] at h
      refine ⟨p,rfl,?_⟩
      have h':(σ[p.1]?).join = some v:=Option.some.inj h
      cases q:σ[p.1]? with
      | none => rw [q] at h'; cases h'
      | some o => rw [q] at h'; cases o with
        | none => cases h'
        | some w => cases h'; rfl
theorem Zfx {pins:List (Addr × Obj)} {σ:St} {H:Hp} {s:Shared} {fp:List Addr} {it:Addr} {tn:Nat → Heap → Prop} {J:It} {E:Value → Shared → Prop} {RR:Value → Addr → Result → Shared → Prop} {QL:List V → Hp → Prop}
    (I:Inv X pins σ H s) (hc:X.calm = true) (T:Turn X.prog X.w X.K tg J fp it tn) (st:tn 0 s.heap) (hf:∀ b ∈ fp,ZhK X pins H b)
    (hkind:scope.kind = .function) (hcell:∀ y ∈ scope.names,y.2 ≠ .cell) (hfree:∀ y,(y,NameKind.free) ∈ scope.names → ∃ c,X.env.cells.lookup y = some c) (hcap:CapsOk X scope caps)
    (hg:∀ s₀ H₀ C,PG (ZcU X scope (own ++ caps.map (·.2)) s₀ H₀ C fp) tg g) (he:∀ s₀ H₀ C,PE (ZcU X scope (own ++ caps.map (·.2)) s₀ H₀ C fp) elt te)
    (hB:Zfv own.length caps g te σ J H QL)
    (fin:∀ D C s' m ys H',s.heap.objs.size ≤ C → D ≠ C → s'.heap.Ns C m → Inv X pins σ (upd H' D (.lst ys)) s' → H' D = none → H' C = none → QL ys H' → RR (.ref D) C (.ok .next) s') :
    wpAny (model X.prog X.w) X.A (newList []) (fun acc s₃ => wpAny (model X.prog X.w) X.A (newFunctionEnv scope X.env.globals (Zhi X.env.cells scope.names []) [] X.env.qual none .none (some X.env)) (fun cenv s₄ =>
      codeAny (model X.prog X.w) X.A (.compStart (.ListComp elt [⟨tg,iter,[],0⟩] scope pos) 0 (.ref it) acc { cenv with scope:=relabel scope X.env }) (RR acc cenv.locals) s₄) E s₃) E s:=by
  refine wpAny_newObj_type (wpAny_newFunctionEnv hcell (by intro y hy; simp at hy) (fun h₁ hns₁ hsb₁ => ?_) hkind)
  dsimp only at hns₁ hsb₁ ⊢
  generalize hH2:s.heap.push { cls:=.type "list", dict:=none,data:=.seq ([]:List Value).toArray } = H2 at hns₁ hsb₁ ⊢
  have hC:H2.objs.size = s.heap.objs.size + 1:=by rw [← hH2,Heap.size_push]
  generalize hCC:H2.objs.size = C at *
  have hCle:s.heap.objs.size ≤ C:=by rw [hC]; exact Nat.le_succ _
  generalize hDD:s.heap.objs.size = D at *
  have hDC:D ≠ C:=by rw [hC]; exact Nat.ne_of_lt (Nat.lt_succ_self _)
  have below:∀ b,b < D → b ≠ C ∧ b ≠ D:=fun b hb => ⟨by rw [hC]; exact Nat.ne_of_lt (Nat.lt_succ_of_lt hb),Nat.ne_of_lt hb⟩
  have lts:∀ {b o},s.heap.get? b = some o → b < D:=fun {b o} e => by rw [← hDD]; exact Heap.lt_size e
  have old:∀ b o,s.heap.get? b = some o → h₁.get? b = some o:=fun b o e => hsb₁.extBut b o (below b (lts e)).1 (Heap.get?_push_of_some _ (hH2 ▸ Heap.get?_push_of_some _ e))
  have hacc:h₁.get? D = some { cls:=.type "list", data:=.seq ([]:List Value).toArray 0 }:=hsb₁.extBut _ _ hDC (Heap.get?_push_of_some _ (hH2 ▸ (hDD ▸ Heap.get?_push_size _ rfl)))
  have hlt:∀ b ∈ fp,b < D:=fun b hb => let ⟨o,e,_⟩:=T.obj 0 _ st b hb; lts e
  have freshS:∀ b,D ≤ b → s.heap.get? b = none:=fun b hb => by
    cases e:s.heap.get? b with
    | none => rfl
    | some o => exact absurd (lts e) (Nat.not_lt.mpr hb)
  have nH:∀ b,D ≤ b → H b = none:=fun b hb => I.hok.fresh (by rw [hDD]; exact hb)
  let Y:Cx:=ZcU X scope (own ++ caps.map (·.2)) s H C fp
  have okY:Y.Ok:=Zh1 I hkind hcell hfree (by rw [hDD]; exact hCle) hf (by rw [hDD]; exact hlt)
  have sub:∀ x c,(Zhi X.env.cells scope.names []).lookup x = some c → X.env.cells.lookup x = some c:=fun x c e => ZeO scope.names [] (fun p hp => (nomatch hp)) (x,c) (PySem.mem_of_lookup e)
  have celllt:∀ x c,X.env.cells.lookup x = some c → c < D:=fun x c e => by
    obtain ⟨v,o,ho,_⟩:=I.cell x c e
    exact lts ho
  have stklt:∀ b ∈ frs X.stack,b < D:=fun b hb => by
    rcases List.mem_cons.mp (I.stkSub b hb) with e | e
    · rw [e,← hDD]; exact I.lt
    · obtain ⟨_,o,ho,_⟩:=I.funs.mem e
      exact lts ho
  have I0:Inv Y [] (st0 own.length caps σ) H { s with heap:=h₁,toks:=s.toks + ([]:List (Str × Value)).length }:=by
    refine ⟨okY,rfl,I.bare,Un.kept old,⟨_,hns₁,fun i x v h1 h2 h3 => ?_⟩,fun x c e => ?_,nH C hCle,fun x c e => I.freeC x c (sub x c e),fun p hp => ?_,I.hok.kept old,?_⟩
    · obtain ⟨hk,p,hp,hv⟩:=Zkx h2
      have h1':caps[i - own.length]?.map (·.2) = some x:=by
        have:(own ++ caps.map (·.2))[i]? = some x:=h1
        rw [List.getElem?_append_right hk,List.getElem?_map] at this
        exact this
      rw [hp] at h1'
      cases h1'
      obtain ⟨q1,q2,q3⟩:=hcap.mem p (List.mem_of_getElem? hp)
      obtain ⟨m,hn,hl⟩:=I.loc
      obtain ⟨u,r,l⟩:=hl p.1 p.2 v q1 hv (by rcases q3 with z | z; exact .inr (.inl z); exact .inr (.inr z))
      refine ⟨u,r,.inr ⟨Zfw q2,?_⟩⟩
      rcases l with ⟨z,_⟩ | ⟨_,c,hc',z⟩
      · rcases q3 with y | y <;> (rw [y] at z; cases z)
      · have hm:(p.2,NameKind.free) ∈ scope.names:=PySem.mem_of_lookup q2
        obtain ⟨d,hd⟩:=ZeP scope.names [] hm ⟨c,hc'⟩
        obtain ⟨d',hd'⟩:=Zb0 hd
        have e:=sub _ _ hd'
        rw [hc'] at e
        cases e
        obtain ⟨oc,ho,hdt⟩:=z
        exact ⟨c,hd',oc,old _ _ ho,hdt⟩
    · obtain ⟨v,o,ho,hd⟩:=I.cell x c (sub x c e)
      exact ⟨v,o,old _ _ ho,hd⟩
    · exact absurd (show p ∈ ([]:List (Addr × Obj)) from hp) (by simp)
    · rw [Zkw]
      show _ = (own ++ caps.map (·.2)).length
      rw [List.length_append,List.length_map]
  have pinD:∀ {its:List Value} {n:Nat} {σ':St} {H':Hp} {s':Shared},Inv Y [] σ' H' s' → H' D = none → s'.heap.get? D = some { cls:=.type "list", data:=.seq its.toArray n } → Inv Y [(D,{ cls:=.type "list", data:=.seq its.toArray n })] σ' H' s':=fun {its n σ' H' s'} J hn e =>
    J.pins_of fun p hp => by
      have ep:p = (D,{ cls:=.type "list", data:=.seq its.toArray n }):=List.mem_singleton.mp hp
      subst ep
      refine ⟨e,hn,hDC,fun z => ?_,fun v z => by cases z⟩
      exact absurd (stklt D z) (Nat.lt_irrefl _)
  obtain ⟨W,⟨m0,w0⟩,turn⟩:=hB
  have fpY:∀ {H':Hp} {pins':List (Addr × Obj)},(∀ b ∈ fp,H' b = none) → (∀ p ∈ pins',∀ b ∈ fp,p.1 ≠ b) → ∀ b ∈ fp,ZhK Y pins' H' b:=fun {H' pins'} hn hp b hb =>
    ⟨hn b hb,(okY.exf b hb).1,okY.exfs b hb,.inl hb,(okY.exf b hb).2,fun p q => hp p (by simpa [Y,ZcU] using q) b hb⟩
  have loop:∀ s₃:Shared,s₃ = { s with heap:=h₁,toks:=s.toks + ([]:List (Str × Value)).length } →
      codeAny (model X.prog X.w) X.A (.compLoop (.ListComp elt [⟨tg,iter,[],0⟩] scope pos) 0 (.ref it) (.ref D) (compEnvC scope (Zhi X.env.cells scope.names []) C X.env)) (RR (.ref D) C) s₃:=by
    rintro s₃ rfl
    refine Zfu (fun k s' => ∃ (i:Nat) (ys:List V) (its:List Value) (n:Nat) (H':Hp),Inv Y [(D,{ cls:=.type "list", data:=.seq its.toArray n })] (st0 own.length caps σ) H' s' ∧ tn i s'.heap ∧ (∀ b ∈ fp,H' b = none) ∧ Vals ys its ∧ W i k ys H') ?_ m0
      ⟨0,[],[],0,H,pinD I0 (nH D (Nat.le_refl _)) hacc,T.keep _ _ _ st fun b _ o e => old b o e,fun b hb => (hf b hb).1,.nil,w0⟩
    rintro k s3 ⟨i,ys,its,n,H3,I3,st3,fr3,rv,w3⟩
    obtain ⟨pD,nD,_⟩:=I3.pin (D,{ cls:=.type "list", data:=.seq its.toArray n }) (List.mem_append_right _ List.mem_cons_self)
    have ff:=fpY (pins':=[(D,{ cls:=.type "list", data:=.seq its.toArray n })]) fr3 (fun p hp b hb => by
      rw [List.mem_singleton.mp hp]; exact (Ne.symm (below b (hlt b hb)).2))
    obtain ⟨hsz,turn⟩:=turn i k ys H3 w3
    rcases turn with ⟨stop,q⟩ | ⟨go,hsz',NN,hNN,step⟩
    · refine thn (T.done Y rfl rfl rfl hc i _ s3 _ H3 _ I3 ff st3 stop) fun r s4 ⟨hr,I4⟩ => ?_
      subst hr
      obtain ⟨m4,hn4,_⟩:=I4.loc
      obtain ⟨pD4,nD4,_⟩:=I4.pin (D,{ cls:=.type "list", data:=.seq its.toArray n }) (List.mem_append_right _ List.mem_cons_self)
      refine fin D C s4 m4 ys H3 hCle hDC hn4 ?_ nD4 I4.free q
      have hk:=I4.base
      have hok4:HOk X.prog X.w H3 s4.heap:=I4.hok
      have neD:∀ b u,H3 b = some u → b ≠ D:=fun b u e z => by rw [z,nD4] at e; cases e
      refine I.call' (ch:=fp) I4.os ⟨fun b o e n hb hx => hk.keep b o e n hb hx,fun b o e n hb hx => hk.slot b o e n hb hx,fun b o e n hx => ?_,fun b o e hx => hk.there b o e hx,fun b xs e => ?_,fun b o u e => ?_,fun b ps e => ?_⟩ ?_ I4.bare ?_
      · rw [Zat (below b (lts e)).2]; exact hk.free b o e n hx
      · have:=hk.tups b xs e
        rw [Zat (neD b _ this)]; exact this
      · have:=hk.frzs b o u e
        rw [Zat (neD b _ this)]; exact this
      · obtain ⟨more,e'⟩:=hk.tbls b ps e
        exact ⟨more,by rw [Zat (neD b _ e')]; exact e'⟩
      · intro b u e
        by_cases hb:b = D
        · subst hb
          rw [Zaf] at e
          cases e
          exact ⟨hsz,its,n,rv,pD4⟩
        · rw [Zat hb] at e
          exact (hok4 b u e).stay (fun c v _ q => q) (fun c q => by rw [Zat (neD c _ q)]; exact q) fun c xs q => by rw [Zat (neD c _ q)]; exact q
      · intro b hb
        obtain ⟨_,f1,_,f3,f4,f5⟩:=hf b hb
        exact ⟨f3,f1,f4,f5⟩
    · refine thn (T.item Y rfl rfl rfl hc i _ s3 _ H3 _ I3 ff st3 go) fun r s4 ⟨u,hr,h4⟩ => ?_
      subst hr
      refine thn h4 fun _ s5 ⟨x,H5,I5,r5,y5,st5,fr5⟩ => ?_
      have ff5:=fpY (pins':=[(D,{ cls:=.type "list", data:=.seq its.toArray n })]) fr5 (fun p hp b hb => by
        rw [List.mem_singleton.mp hp]; exact (Ne.symm (below b (hlt b hb)).2))
      have I5':=I5.pinned ff5 (T.obj _ _ st5)
      refine thn (hg s H C _ s5 _ H5 x u _ I5' r5 (step x H5 y5)) fun _ s6 ⟨σ6,H6,I6,wk,q6⟩ => ?_
      refine thn (he s H C _ s6 σ6 H6 _ I6 q6) fun y s7 ⟨v,H7,I7,r7,n7⟩ => ?_
      obtain ⟨m',hm,w7⟩:=hNN v H7 n7
      obtain ⟨pD7,nD7,_,_,_⟩:=I7.pin (D,{ cls:=.type "list", data:=.seq its.toArray n }) (List.mem_append_right _ (List.mem_append_left _ List.mem_cons_self))
      refine append_at (n:=n) pD7 (fun h' hs' hD' => ?_) (by rw [List.size_toArray,← rv.length]; exact hsz)
      have st7:tn (i + 1) s7.heap:=T.keep _ _ _ st5 fun b hb o e => (I7.pin (b,o) (List.mem_append_right _ (List.mem_append_right _ (Zcw hb e)))).1
      have fr7:∀ b ∈ fp,H7 b = none:=fun b hb => by
        obtain ⟨o,e,d⟩:=T.obj _ _ st5 b hb
        exact (I7.pin (b,o) (List.mem_append_right _ (List.mem_append_right _ (Zcw hb e)))).2.1
      have I8:Inv Y [] σ6 H7 s7:=I7.pins_of fun p hp => (nomatch hp)
      have I9:Inv Y [] (st0 own.length caps σ) H7 s7:=I8.weak (by rw [I0.len,I8.len]) wk
      have I10:Inv Y [] (st0 own.length caps σ) H7 { s7 with heap:=h' }:=I9.turned (t':=s7.toks) (it:=D) (fun b o hb e => hs'.extBut b o hb e) nD7 hDC (.inr (Nat.le_of_eq hDD)) (fun x c e => Nat.ne_of_lt (celllt x c (sub x c e))) (fun p hp => absurd (show p ∈ ([]:List (Addr × Obj)) from hp) (by simp))
      refine ⟨m',hm,i + 1,ys ++ [v],its ++ [y],n + 1,H7,pinD I10 nD7 ?_,?_,fr7,rv.append (.cons r7 .nil),w7⟩
      · rw [hD',List.push_toArray]
      · exact T.keep _ _ _ st7 fun b hb o e => hs'.extBut b o (below b (hlt b hb)).2 e
  have tn1:tn 0 h₁:=T.keep _ _ _ st fun b _ o e => old b o e
  exact codeAny_compStart_list (loop _ rfl) (T.self _ 0 _ _ _ tn1 (loop _ rfl))
end
end L2
namespace L2
open PySem PySem.Spec PyProof.Rows
section
variable {X:Cx} {tg iter elt:Expr} {scope:Scope} {pos:Pos} {wi:TI} {g:TG} {te:TE} {own:List Str} {caps:List (Nat × Str)}
theorem Zdf (own:List Str) (caps:List (Nat × Str)) (hc:X.calm = true) (hi:PI X tg iter wi) (hg:∀ fp s₀ H₀ C,PG (ZcU X scope (own ++ caps.map (·.2)) s₀ H₀ C fp) tg g) (he:∀ fp s₀ H₀ C,PE (ZcU X scope (own ++ caps.map (·.2)) s₀ H₀ C fp) elt te)
    (hcap:CapsOk X scope caps)
    (hfr:(scope.names.all fun y => !(y.2 == NameKind.free) || (X.env.cells.lookup y.1).isSome) = true:=by rfl)
    (hkind:scope.kind = .function:=by rfl) (hcell:∀ y ∈ scope.names,y.2 ≠ .cell:=by decide +kernel)
    (hnames:∀ y ∈ scope.names,y.2 = .local → scope.names.lookup y.1 = some .local:=by decide +kernel) (hs:∀ x,foldedSetIterable iter X.env x = pure x:=by intro _; rfl) :
    PE X (.ListComp elt [⟨tg,iter,[],0⟩] scope pos) (Zlo own.length caps wi g te):=by
  intro pins s σ H Q I h
  have hfree:=ZgI hfr
  have hclos:=Zes hfree
  rw [eval_ListComp]
  refine wpAny_comprehension_free (use:=none) rfl hs hclos hkind hnames (thn (hi pins s σ H _ I h) fun v s1 h1 => thn h1 fun itv s2 h2 => ?_)
  obtain ⟨it,fp,tn,J,H2,e,I2,T,st2,f2,hB⟩:=h2
  subst e
  refine Zfx (RR:=fun acc C => compPost (model X.prog X.w) X.A X.xe none (EP X pins σ Q) acc C) I2 hc T st2 f2 hkind hcell hfree hcap (hg fp) (he fp) hB ?_
  intro D C s' m ys H' hC hDC hn I3 nD nC q
  refine ⟨m,hn,fun h' hs' => ⟨.ref D,upd H' D (.lst ys),?_,rfl,q D nD⟩⟩
  exact I3.turned (t':=s'.toks) (it:=C) (fun b o hb e => hs'.extBut b o hb e) (by rw [Zat (Ne.symm hDC)]; exact nC) (Ne.symm (Nat.ne_of_lt (Nat.lt_of_lt_of_le I2.lt hC))) (.inr (Nat.le_trans I2.sz hC))
    (fun x c e z => by
      obtain ⟨v,o,ho,_⟩:=I2.cell x c e
      rw [z] at ho
      exact absurd (Nat.lt_of_lt_of_le (Heap.lt_size ho) hC) (Nat.lt_irrefl _))
    (fun p hp z => by
      have:=(I2.pin p hp).1
      rw [z] at this
      exact absurd (Nat.lt_of_lt_of_le (Heap.lt_size this) hC) (Nat.lt_irrefl _))
theorem Zet {i:Nat} {x:Str} {pos' spos:Pos} (own:List Str) (caps:List (Nat × Str)) (hN:X.N.Nodup) (hx1:X.N[i]? = some x) (hx:X.env.scope.names.lookup x = some .local) (hc:X.calm = true) (hi:PI X tg iter wi)
    (hg:∀ fp s₀ H₀ C,PG (ZcU X scope (own ++ caps.map (·.2)) s₀ H₀ C fp) tg g) (he:∀ fp s₀ H₀ C,PE (ZcU X scope (own ++ caps.map (·.2)) s₀ H₀ C fp) elt te)
    (hcap:CapsOk X scope caps)
    (hfr:(scope.names.all fun y => !(y.2 == NameKind.free) || (X.env.cells.lookup y.1).isSome) = true:=by rfl)
    (hsw:swapsWith (.ListComp elt [⟨tg,iter,[],0⟩] scope pos) (some (.Name x pos')) spos.line X.env = pure true:=by rfl)
    (hkind:scope.kind = .function:=by rfl) (hcell:∀ y ∈ scope.names,y.2 ≠ .cell:=by decide +kernel)
    (hnames:∀ y ∈ scope.names,y.2 = .local → scope.names.lookup y.1 = some .local:=by decide +kernel) (hs:∀ x,foldedSetIterable iter X.env x = pure x:=by intro _; rfl) :
    PS X (.Assign [.Name x pos'] (.ListComp elt [⟨tg,iter,[],0⟩] scope pos) spos) (Zl5 (Zlo own.length caps wi g te) (Zdt i)):=by
  intro pins s σ H D0 I h
  have hfree:=ZgI hfr
  have hclos:=Zes hfree
  rw [exec_Assign_Name_used _ _ _ _ hsw]
  refine wpAny_bind (wpAny_standAt (wpAny_bind ?_))
  show wpAny _ X.A (do let _ ← comprehension (.ListComp elt [⟨tg,iter,[],0⟩] scope pos) scope X.env _ (newList []) false (eval iter X.env) (some (assign (.Name x pos') X.env))) _ _ s
  refine wpAny_bind (wpAny_mono (wpAny_comprehension_free (use:=some (assign (.Name x pos') X.env)) (Q:=fun _ s' => SP X pins D0 .next s') rfl hs hclos hkind hnames (thn (hi pins s σ H _ I h) fun v s1 h1 => thn h1 fun itv s2 h2 => ?_)) (fun _ s' hq => wpAny_pure (wpAny_pure hq)) fun _ _ e => e)
  obtain ⟨it,fp,tn,J,H2,e,I2,T,st2,f2,hB⟩:=h2
  subst e
  refine Zfx (RR:=fun acc C => compPost (model X.prog X.w) X.A X.xe (some (assign (.Name x pos') X.env)) (fun _ s' => SP X pins D0 .next s') acc C) I2 hc T st2 f2 hkind hcell hfree hcap (hg fp) (he fp) hB ?_
  intro D C s' m ys H' hC hDC hn I3 nD nC q
  show wpAny _ X.A (assign (.Name x pos') X.env (.ref D)) _ _ _
  have hCl:C ≠ X.env.locals:=Ne.symm (Nat.ne_of_lt (Nat.lt_of_lt_of_le I2.lt hC))
  have hCc:∀ x c,X.env.cells.lookup x = some c → c ≠ C:=fun x c e z => by
    obtain ⟨v,o,ho,_⟩:=I2.cell x c e
    rw [z] at ho
    exact absurd (Nat.lt_of_lt_of_le (Heap.lt_size ho) hC) (Nat.lt_irrefl _)
  refine wpAny_assign_Name (Zfi I3 hN hx1 (.inl hx) (v:=.ref D) rfl (fun s4 I4 ⟨a,sb,ha⟩ => ?_) (.inr hx))
  have hCa:C ≠ a:=by
    rcases ha with e | e
    · rw [e]; exact hCl
    · exact Ne.symm (hCc x a e)
  refine ⟨m,hn.sameBut sb hCa,fun h' hs' => ⟨_,_,?_,q D nD⟩⟩
  exact I4.turned (t':=s4.toks) (it:=C) (fun b o hb e => hs'.extBut b o hb e) (by rw [Zat (Ne.symm hDC)]; exact nC) hCl (.inr (Nat.le_trans I2.sz hC)) hCc
    (fun p hp z => by
      have:=(I2.pin p hp).1
      rw [z] at this
      exact absurd (Nat.lt_of_lt_of_le (Heap.lt_size this) hC) (Nat.lt_irrefl _))
theorem Zlp {x:V} {cs:List (Option V)}:∀ (i:Nat) v,((none:Option V) :: cs)[i]? = some (some v) → ((some x) :: cs)[i]? = some (some v)
  | 0,v,h => by simp at h
  | i + 1,v,h => by simpa using h
theorem ZdL {K:PySem.W.Frag} {a:Addr} {xs:List V} {σ:St} {H:Hp} {QL:List V → Hp → Prop} (Pv:Nat → List V → Hp → Prop) (hz:xs.length ≤ 1000) (h0:Pv 0 [] H) (hl:∀ i ys H,i ≤ xs.length → Pv i ys H → SqL K H a xs)
    (hs:∀ i x ys H,xs[i]? = some x → ys.length = i → Pv i ys H → te (some x :: caps.map fun p => (σ[p.1]?).join) H fun v H' => Pv (i + 1) (ys ++ [v]) H') (hd:∀ ys H,ys.length = xs.length → Pv xs.length ys H → QL ys H) :
    Zfv 1 caps (Zdt 0) te σ (Itl K a) H QL:=by
  have hz':xs.length < sizeLine:=ZcT hz
  refine ⟨fun i m ys H => m = xs.length - i ∧ i ≤ xs.length ∧ ys.length = i ∧ Pv i ys H,⟨_,rfl,Nat.zero_le _,rfl,h0⟩,?_⟩
  rintro i m ys H' ⟨rfl,hi,hy,p⟩
  have q:=hl i ys H' hi p
  refine ⟨by omega,?_⟩
  by_cases hlt:i < xs.length
  · refine .inr ⟨⟨xs,xs[i],q,by simp [hlt]⟩,by omega,fun v H4 => Pv (i + 1) (ys ++ [v]) H4,fun v H4 p' => ⟨xs.length - (i + 1),by omega,rfl,hlt,by rw [List.length_append,hy]; rfl,p'⟩,fun x H2 y => ?_⟩
    obtain ⟨e,y⟩:=y
    subst e
    exact ⟨Zlp,hs i x ys _ (y xs q) hy p⟩
  · have e:i = xs.length:=by omega
    subst e
    exact .inl ⟨⟨xs,q,Nat.le_refl _⟩,hd ys H' hy p⟩
theorem Zcx {lo:Int} {n:Nat} {σ:St} {H:Hp} {QL:List V → Hp → Prop} (Pv:Nat → List V → Hp → Prop) (hz:n ≤ 1000) (h0:Pv 0 [] H)
    (hs:∀ i ys H,i < n → ys.length = i → Pv i ys H → te (some (.int (lo + i)) :: caps.map fun p => (σ[p.1]?).join) H fun v H' => Pv (i + 1) (ys ++ [v]) H') (hd:∀ ys H,ys.length = n → Pv n ys H → QL ys H) :
    Zfv 1 caps (Zdt 0) te σ (Itr lo n) H QL:=by
  have hz':n < sizeLine:=ZcT hz
  refine ⟨fun i m ys H => m = n - i ∧ i ≤ n ∧ ys.length = i ∧ Pv i ys H,⟨_,rfl,Nat.zero_le _,rfl,h0⟩,?_⟩
  rintro i m ys H' ⟨rfl,hi,hy,p⟩
  refine ⟨by omega,?_⟩
  by_cases hlt:i < n
  · refine .inr ⟨hlt,by omega,fun v H4 => Pv (i + 1) (ys ++ [v]) H4,fun v H4 p' => ⟨n - (i + 1),by omega,rfl,hlt,by rw [List.length_append,hy]; rfl,p'⟩,fun x H2 y => ?_⟩
    obtain ⟨e,y⟩:=y
    subst e y
    exact ⟨Zlp,hs i ys _ hlt hy p⟩
  · have e:i = n:=by omega
    subst e
    exact .inl ⟨Nat.le_refl _,hd ys H' hy p⟩
end
end L2
namespace L2
open PySem PySem.Spec PyProof.Rows
structure HasM (P:Program) (w:World) (K:PySem.W.Frag) (mg:Str → Option Value) (base:Heap) (C:Addr) (m:Str) (k:Nat) (ps:List Str) (dvs:List V) (sp:Sp):Prop where
  ex:∃ (f:Addr) (fd:FuncData) (ds:List Value),FnOk P w K mg base CX0 k f fd ps sp ∧ Meth K C m f ∧ Binds K fd ps ds ∧ Vals dvs ds
theorem HasM.mono {P:Program} {w:World} {K:PySem.W.Frag} {mg:Str → Option Value} {base:Heap} {C:Addr} {m:Str} {j k:Nat} {ps:List Str} {dvs:List V} {sp:Sp} (h:HasM P w K mg base C m j ps dvs sp) (e:j ≤ k):HasM P w K mg base C m k ps dvs sp :=
  let ⟨f,fd,ds,a,b,c,d⟩:=h.ex
  ⟨f,fd,ds,a.mono e,b,c,d⟩
def ZjX (P:Program) (w:World) (K:PySem.W.Frag) (mg:Str → Option Value) (base:Heap) (m:Str) (k:Nat) (ta:TE) (t:TA):TE:=fun σ H Q => ta σ H fun x H1 => ∃ a C dx fs ps dvs sp,x = .ref a ∧ H1 a = some (.ins C dx fs) ∧ Cls K C ∧ HasM P w K mg base C m k ps dvs sp ∧ fs.lookup m = none ∧
  t σ H1 fun vs H2 => sp (x :: (vs ++ dvs)) H2 Q E0
section
variable {X:Cx} {k:Nat} {m x:Str} {p pos apos:Pos} {e o:Expr} {es:List Expr} {ta:TE} {t:TA}
theorem ZaA {pl:Sem Bool} (he:PE X o ta) (hr:Room k X.A) (ha:PA X (e :: es) t)
    (hst:starEach (e :: es) X.env = (false,eval e X.env) :: starEach es X.env:=by rfl) (hpl:(backTo pos (starEach es X.env)).any (·.1) = false:=by rfl)
    (ht:eval (.Call (.Attribute o m apos) (e :: es) [] pos) X.env = (do
      let ov ← eval o X.env
      standAt apos.atName
      let (f,first) ← holding [ov] (getMethod ov m pl)
      callWith pos f first (backTo pos (starEach (e :: es) X.env)) (backToKw pos (keywordEach [] X.env))):=by rfl) :
    PE X (.Call (.Attribute o m apos) (e :: es) [] pos) (ZjX X.prog X.w X.K X.mg X.base m k ta t):=by
  intro pins s σ H Q I h
  refine PySem.W.methodCall_KW (pl:=pl) (thn (he pins s σ H _ I h) fun u s1 ⟨x,H1,I1,rx,a,C,dx,fs,ps,dvs,sp,ex,ea,c,hM,l,q⟩ => ?_) ht
  subst ex
  obtain rfl:u = Value.ref a:=rx
  obtain ⟨f,fd,ds,F,hm,hb,hd⟩:=hM.ex
  refine Zeq I1 ea c hm l ?_
  refine PySem.W.callWith_K (first:=[.ref a]) (h₀:=X.base) I.ok.mod.kin hm.kp (thn (ha pos pins s1 σ H1 _ I1 q) fun us s2 ⟨vs,H2,I2,r,q2⟩ => ⟨I2.kIn,?_⟩) hst hpl
  exact ZjV (us:=.ref a :: us) (vs:=.ref a :: vs) F hr hb hd Zku I2 (.cons rfl r) q2
structure HasI (P:Program) (w:World) (K:PySem.W.Frag) (mg:Str → Option Value) (base:Heap) (C:Addr) (k:Nat) (ps:List Str) (sp:Sp):Prop where
  ex:∃ (f:Addr) (fd:FuncData),Mk K C f ∧ FnOk P w K mg base CX0 k f fd ps sp ∧ Binds K fd ps []
theorem ZgJ {C:Addr} {ps:List Str} {sp:Sp} (h:HasI X.prog X.w X.K X.mg X.base C k ps sp) (hr:Room (k + 1) X.A) (hg:Gl X x) (hm:X.mg x = some (.ref C)) (ha:PA X (e :: es) t) (hdb:(x == ("__debug__" : Str)) = false:=by decide)
    (he:starEach (e :: es) X.env = (false,eval e X.env) :: starEach es X.env:=by rfl) (hpl:(backTo pos (starEach es X.env)).any (·.1) = false:=by rfl):PE X (.Call (.Name x p) (e :: es) [] pos) (Zlm C sp [] E0 t):=by
  obtain ⟨f,fd,M,F,b⟩:=h.ex
  exact Zkq M F hr hg hm b .nil Zku ha hdb he hpl
structure HereM (K:PySem.W.Frag) (C:Addr) (m qual:Str) (st:Stmt):Prop where
  ex:∃ (f:Addr) (fd:FuncData),Fun K m qual st f fd ∧ Meth K C m f
theorem HereM.hasM {P:Program} {w:World} {K:PySem.W.Frag} {mg:Str → Option Value} {base:Heap} {C:Addr} {m qual:Str} {st:Stmt} {k:Nat} {ps:List Str} {sp:Sp} (h:HereM K C m qual st)
    (b:∀ f fd,Fun K m qual st f fd → Binds K fd ps []) (ok:∀ f fd,Fun K m qual st f fd → FnOk P w K mg base CX0 k f fd ps sp):HasM P w K mg base C m k ps [] sp :=
  let ⟨f,fd,F,M⟩:=h.ex
  ⟨f,fd,[],ok f fd F,M,b f fd F,.nil⟩
theorem hereM_mk {K:PySem.W.Frag} {C:Addr} {m qual:Str} {st:Stmt} {f:Addr} {oc:Value} {od an:Option Addr} {osl:Array (Option Value)} {kV doc pm cdv ct:Value} (a:PySem.W.findIn K (.ref C) m = some (some (.ref f))) (i:PySem.W.isFn K (.ref f) = true)
    (l:K.lookup f = some ⟨oc,od,.func (PySem.W.fnOf m qual (ZbP st) (Za5 st) (Zag st) .none kV doc pm an cdv ct),osl⟩)
    (c:PySem.W.codeIn K cdv qual = true) (k:PySem.W.keepIn K (.ref f) = true):HereM K C m qual st:=⟨f,_,Zh0 l c k,a,i,k⟩
structure HereI (K:PySem.W.Frag) (C:Addr) (qual:Str) (st:Stmt):Prop where
  ex:∃ (f:Addr) (fd:FuncData),Fun K "__init__" qual st f fd ∧ Mk K C f
theorem HereI.hasI {P:Program} {w:World} {K:PySem.W.Frag} {mg:Str → Option Value} {base:Heap} {C:Addr} {qual:Str} {st:Stmt} {k:Nat} {ps:List Str} {sp:Sp} (h:HereI K C qual st)
    (b:∀ f fd,Fun K "__init__" qual st f fd → Binds K fd ps []) (ok:∀ f fd,Fun K "__init__" qual st f fd → FnOk P w K mg base CX0 k f fd ps sp):HasI P w K mg base C k ps sp :=
  let ⟨f,fd,F,M⟩:=h.ex
  ⟨f,fd,M,ok f fd F,b f fd F⟩
theorem hereI_mk {K:PySem.W.Frag} {C:Addr} {qual:Str} {st:Stmt} {f:Addr} {oc:Value} {od an:Option Addr} {osl:Array (Option Value)} {kV doc pm cdv ct:Value} (mk:PySem.W.makesIn K C = true) (a:PySem.W.findIn K (.ref C) "__init__" = some (some (.ref f))) (i:PySem.W.isFn K (.ref f) = true)
    (kc:PySem.W.keepIn K (.ref C) = true) (l:K.lookup f = some ⟨oc,od,.func (PySem.W.fnOf "__init__" qual (ZbP st) (Za5 st) (Zag st) .none kV doc pm an cdv ct),osl⟩)
    (c:PySem.W.codeIn K cdv qual = true) (k:PySem.W.keepIn K (.ref f) = true):HereI K C qual st:=⟨f,_,Zh0 l c k,mk,a,i,kc⟩
structure Mk0 (K:PySem.W.Frag) (C:Addr):Prop where
  makes:PySem.W.makesIn K C = true
  init:PySem.W.findIn K (.ref C) "__init__" = some (some (.builtin "object.__init__"))
  kp:PySem.W.keepIn K (.ref C) = true
def Zky (C:Addr):TE:=fun _ H Q => ∀ x dx,H x = none → H dx = none → dx ≠ x → Q (.ref x) (upd (upd H dx (.own x)) x (.ins C dx []))
theorem Zhj {C:Addr} {pins:List (Addr × Obj)} {σ:St} {H:Hp} {s:Shared} {Q:VK} (M:Mk0 X.K C) (I:Inv X pins σ H s)
    (h:∀ x dx,H x = none → H dx = none → dx ≠ x → Q (.ref x) (upd (upd H dx (.own x)) x (.ins C dx []))):wpAny (model X.prog X.w) X.A (call (.ref C) []) (EP X pins σ Q) X.xe s:=by
  have hq:=h (s.heap.objs.size + 1) s.heap.objs.size (I.hok.fresh (Nat.le_succ _)) (I.hok.fresh (Nat.le_refl _)) (Nat.ne_of_lt (Nat.lt_succ_self _))
  have I2:=Inv.made (C:=C) I
  refine wpAny_call (ZhT I.kIn M.makes M.init (fun self => PySem.W.Looks.of_pure (PySem.W.oi_bind self)) ?_)
  have Y:=PySem.W.makes_of (M:=model X.prog X.w) I.kIn M.makes
  obtain ⟨hh,g,d,t,os⟩:=s
  have t1:PySem.W.Looks (model X.prog X.w) ((hh.push PySem.W.emptyDict).push (PySem.W.instObj C hh.objs.size)) (typeOf (.ref (hh.objs.size + 1))) (.ref C) :=
    (PySem.W.Looks.ld (o:=PySem.W.instObj C hh.objs.size) (by have:=Heap.get?_push_size (hh.push PySem.W.emptyDict) (o:=PySem.W.instObj C hh.objs.size) rfl; rwa [Heap.size_push] at this)).andThen .now
  have t2:PySem.W.Looks (model X.prog X.w) ((hh.push PySem.W.emptyDict).push (PySem.W.instObj C hh.objs.size)) (isInstance (.ref (hh.objs.size + 1)) (.type "object")) true:=t1.andThen (Y.top.keeps fun b o e => Heap.get?_push_of_some _ (Heap.get?_push_of_some _ e))
  refine codeAny_call_builtin PySem.W.oi_plain PySem.W.entry_oi (@PySem.W.check_slot (model X.prog X.w) _ _ _ "object.__init__" "object" "__init__" (.ref (hh.objs.size + 1)) [] [] _ PySem.W.oi_kind PySem.W.oi_split t2 (PySem.W.oi_args (.ref (hh.objs.size + 1))) ?_)
  rw [PySem.W.oi_run]
  refine wpAny_pure (And.intro rfl ?_)
  exact ⟨V.ref (hh.objs.size + 1),_,I2,rfl,hq⟩
theorem Zh2 {C:Addr} (M:Mk0 X.K C) (hg:Gl X x) (hm:X.mg x = some (.ref C)) (hdb:(x == ("__debug__" : Str)) = false:=by decide):PE X (.Call (.Name x p) [] [] pos) (Zky C):=by
  intro pins s σ H Q I h
  refine wpAny_Call_Name_kw (Zde I hg hm ?_ hdb)
  exact PySem.W.callWith_K0 I.kIn M.kp (Zhj M I h)
end
end L2
namespace M1
theorem fmod_gcd (a b:Int):Int.gcd b (a.fmod b) = Int.gcd a b:=by
  have h:a.fmod b = a - b * a.fdiv b:=Int.fmod_def a b
  rw [h,Int.gcd_comm a b]
  have:a - b * a.fdiv b = a + b * (-(a.fdiv b)):=by rw [Int.mul_neg]; omega
  rw [this]
  simp
theorem Zlq (i:Int):(if i < 0 then -i else i) = (i.natAbs:Int):=by split <;> omega
theorem gcd_zero' (a:Int):(Int.gcd a 0:Int) = (if a < 0 then -a else a):=by
  rw [Zlq,Int.gcd_zero_right]
theorem ZdM (a:Int) {b:Int} (h:b < 0):a.fmod b ≤ 0 ∧ b < a.fmod b:=by
  have e:=Int.neg_fmod_neg a b
  have h1:=Int.fmod_nonneg_of_pos (-a) (b:=-b) (by omega)
  have h2:=Int.fmod_lt_of_pos (-a) (b:=-b) (by omega)
  omega
theorem fmod_lt (a:Int) {b:Int} (h:b ≠ 0):(a.fmod b).natAbs < b.natAbs:=by
  rcases Int.lt_or_gt_of_ne h with h | h
  · have h1:=ZdM a h
    omega
  · have h1:=Int.fmod_nonneg_of_pos a h
    have h2:=Int.fmod_lt_of_pos a h
    omega
theorem Zfy (a:Int) {b:Int} (h:b ≠ 0):(0 ≤ b ∧ 0 ≤ a.fmod b) ∨ (b ≤ 0 ∧ a.fmod b ≤ 0):=by
  rcases Int.lt_or_gt_of_ne h with h | h
  · exact .inr ⟨by omega,(ZdM a h).1⟩
  · exact .inl ⟨by omega,Int.fmod_nonneg_of_pos a h⟩
structure Sh (x y a u1 v1 b u2 v2:Int):Prop where
  ea:a = u1 * x + v1 * y
  eb:b = u2 * x + v2 * y
  g:Int.gcd a b = Int.gcd x y
  st:(a = x ∧ u1 = 1 ∧ v1 = 0 ∧ b = y ∧ u2 = 0 ∧ v2 = 1) ∨
    (a ≠ 0 ∧ ((0 ≤ a ∧ 0 ≤ b) ∨ (a ≤ 0 ∧ b ≤ 0)) ∧ a.natAbs ≤ y.natAbs ∧ b.natAbs ≤ y.natAbs ∧ u1.natAbs ≤ y.natAbs ∧ v1.natAbs ≤ x.natAbs + 2 * y.natAbs ∧
      u2.natAbs * a.natAbs + u1.natAbs * b.natAbs ≤ y.natAbs ∧ v2.natAbs * a.natAbs + v1.natAbs * b.natAbs ≤ x.natAbs + 2 * y.natAbs)
theorem Sh.start (x y:Int):Sh x y x 1 0 y 0 1:=⟨by omega,by omega,rfl,.inl ⟨rfl,rfl,rfl,rfl,rfl,rfl⟩⟩
theorem Zcy {a b c:Nat} (h:a * b ≤ c) (hb:b ≠ 0):a ≤ c:=Nat.le_trans (Nat.le_mul_of_pos_right a (Nat.pos_of_ne_zero hb)) h
theorem Zme {X Y:Nat}:X ≤ X + 2 * Y + 1:=by omega
theorem Zh3 {X Y:Nat}:Y ≤ X + 2 * Y + 1:=by omega
theorem Zlr {X Y:Nat}:1 ≤ X + 2 * Y + 1:=by omega
theorem Zmf {X Y:Nat} (h:1 ≤ Y):1 ≤ X + 2 * Y:=by omega
theorem Sh.bound {x y a u1 v1 b u2 v2:Int} (h:Sh x y a u1 v1 b u2 v2) :
    a.natAbs ≤ x.natAbs + 2 * y.natAbs + 1 ∧ u1.natAbs ≤ x.natAbs + 2 * y.natAbs + 1 ∧ v1.natAbs ≤ x.natAbs + 2 * y.natAbs + 1 ∧
    b.natAbs ≤ x.natAbs + 2 * y.natAbs + 1 ∧ u2.natAbs ≤ x.natAbs + 2 * y.natAbs + 1 ∧ v2.natAbs ≤ x.natAbs + 2 * y.natAbs + 1:=by
  rcases h.st with ⟨rfl,rfl,rfl,rfl,rfl,rfl⟩ | ⟨ha,_,h1,h2,h3,h4,h5,h6⟩
  · exact ⟨Zme,Zlr,Nat.zero_le _,Zh3,Nat.zero_le _,Zlr⟩
  · have ha':a.natAbs ≠ 0:=Int.natAbs_ne_zero.mpr ha
    have k1:u2.natAbs ≤ y.natAbs:=Zcy (b:=a.natAbs) (Nat.le_trans (Nat.le_add_right _ _) h5) ha'
    have k2:v2.natAbs ≤ x.natAbs + 2 * y.natAbs:=Zcy (b:=a.natAbs) (Nat.le_trans (Nat.le_add_right _ _) h6) ha'
    exact ⟨Nat.le_trans h1 Zh3,Nat.le_trans h3 Zh3,Nat.le_succ_of_le h4,Nat.le_trans h2 Zh3,Nat.le_trans k1 Zh3,Nat.le_succ_of_le k2⟩
theorem rest_eq (a b:Int):a - a.fdiv b * b = a.fmod b:=by rw [Int.fmod_def,Int.mul_comm]
theorem fdiv_small (a:Int) {b:Int} (hb:b ≠ 0):(a.fdiv b).natAbs ≤ a.natAbs + 1:=by
  have e:=Int.mul_fdiv_add_fmod a b
  have l:=fmod_lt a hb
  have k:(b * a.fdiv b).natAbs = b.natAbs * (a.fdiv b).natAbs:=Int.natAbs_mul ..
  have z:b * a.fdiv b = a - a.fmod b:=by omega
  have n1:b.natAbs * (a.fdiv b).natAbs ≤ a.natAbs + (b.natAbs - 1):=by
    rw [← k,z]
    have:=Int.natAbs_sub_le a (a.fmod b)
    omega
  generalize (a.fdiv b).natAbs = q at *
  generalize b.natAbs = c at *
  have hc:1 ≤ c:=by omega
  rcases Nat.lt_or_ge (a.natAbs + 1) q with h | h
  · have:c * (a.natAbs + 2) ≤ c * q:=Nat.mul_le_mul_left c h
    have e2:c * (a.natAbs + 2) = c * a.natAbs + c * 2:=Nat.mul_add ..
    have e3:a.natAbs ≤ c * a.natAbs:=Nat.le_mul_of_pos_left _ hc
    omega
  · exact h
theorem Zkz {a b:Int} (h:(0 ≤ a ∧ 0 ≤ b) ∨ (a ≤ 0 ∧ b ≤ 0)):0 ≤ a.fdiv b:=by
  rcases h with ⟨h1,h2⟩ | ⟨h1,h2⟩
  · exact Int.fdiv_nonneg h1 h2
  · rw [← Int.neg_fdiv_neg]; exact Int.fdiv_nonneg (by omega) (by omega)
theorem Zh4 {a b:Int} (hb:b ≠ 0) (h:(0 ≤ a ∧ 0 ≤ b) ∨ (a ≤ 0 ∧ b ≤ 0)):(a.fdiv b).natAbs * b.natAbs + (a.fmod b).natAbs = a.natAbs:=by
  have e:=Int.mul_fdiv_add_fmod a b
  have q:=Zkz h
  have s:=Zfy a hb
  rw [← Int.natAbs_mul,Int.mul_comm]
  have pq:(0 ≤ b ∧ 0 ≤ b * a.fdiv b) ∨ (b ≤ 0 ∧ b * a.fdiv b ≤ 0):=by
    rcases h with ⟨h1,h2⟩ | ⟨h1,h2⟩
    · exact .inl ⟨h2,Int.mul_nonneg h2 q⟩
    · refine .inr ⟨h2,?_⟩
      have:=Int.mul_nonneg (show 0 ≤ -b by omega) q
      rw [Int.neg_mul] at this
      omega
  rcases pq with ⟨b1,p1⟩ | ⟨b1,p1⟩
  · rcases s with ⟨_,s1⟩ | ⟨b2,_⟩
    · rw [← Int.natAbs_add_of_nonneg p1 s1,e]
    · exact absurd (Int.le_antisymm b2 b1) hb
  · rcases s with ⟨b2,_⟩ | ⟨_,s1⟩
    · exact absurd (Int.le_antisymm b1 b2) hb
    · rw [← Int.natAbs_add_of_nonpos p1 s1,e]
theorem Zeu (u q v:Int):(u - q * v).natAbs ≤ u.natAbs + q.natAbs * v.natAbs:=by
  have:=Int.natAbs_sub_le u (q * v)
  rw [Int.natAbs_mul] at this
  exact this
theorem ZgK {u1 u2 q a b r u C:Nat} (hu:u ≤ u1 + q * u2) (ha:q * b + r = a) (h:u2 * a + u1 * b ≤ C):u * b + u2 * r ≤ C:=by
  have h1:u * b ≤ (u1 + q * u2) * b:=Nat.mul_le_mul_right b hu
  have h2:(u1 + q * u2) * b = u1 * b + u2 * (q * b):=by
    rw [Nat.add_mul,Nat.mul_comm q u2,Nat.mul_assoc]
  have h3:u2 * a = u2 * (q * b) + u2 * r:=by rw [← ha,Nat.mul_add]
  omega
theorem Zjh {x y a b q u1 v1 u2 v2:Int} (ea:a = u1 * x + v1 * y) (eb:b = u2 * x + v2 * y):a - q * b = (u1 - q * u2) * x + (v1 - q * v2) * y:=by
  rw [ea,eb,Int.sub_mul,Int.sub_mul,Int.mul_add,Int.mul_assoc,Int.mul_assoc]
  omega
theorem Zls {M A R B:Nat} (h:M ≤ A + R) (l:R < B):M + R ≤ A + 2 * B:=by omega
theorem Sh.turn {x y a u1 v1 b u2 v2:Int} (h:Sh x y a u1 v1 b u2 v2) (hb:b ≠ 0) :
    Sh x y b u2 v2 (a - a.fdiv b * b) (u1 - a.fdiv b * u2) (v1 - a.fdiv b * v2):=by
  have er:=rest_eq a b
  refine ⟨h.eb,Zjh h.ea h.eb,?_,.inr ?_⟩
  · rw [er,fmod_gcd]; exact h.g
  · have lt:=fmod_lt a hb
    have sg:=Zfy a hb
    rw [er]
    refine ⟨hb,sg,?_⟩
    rcases h.st with ⟨rfl,rfl,rfl,rfl,rfl,rfl⟩ | ⟨ha,hs,h1,h2,h3,h4,h5,h6⟩
    · have e0:(1:Int) - a.fdiv b * 0 = 1:=by omega
      have e1:(0:Int) - a.fdiv b * 1 = -(a.fdiv b):=by omega
      rw [e0,e1,Int.natAbs_neg]
      refine ⟨Nat.le_refl _,Nat.le_of_lt lt,Nat.zero_le _,Zmf (Nat.pos_of_ne_zero (Int.natAbs_ne_zero.mpr hb)),?_,?_⟩
      · show 1 * b.natAbs + 0 * (a.fmod b).natAbs ≤ b.natAbs
        rw [Nat.one_mul,Nat.zero_mul]
        exact Nat.le_refl _
      · show (a.fdiv b).natAbs * b.natAbs + 1 * (a.fmod b).natAbs ≤ a.natAbs + 2 * b.natAbs
        have e:=Int.mul_fdiv_add_fmod a b
        have k:(b * a.fdiv b).natAbs = b.natAbs * (a.fdiv b).natAbs:=Int.natAbs_mul ..
        have z:b * a.fdiv b = a - a.fmod b:=by omega
        rw [Nat.mul_comm,← k,z,Nat.one_mul]
        exact Zls (Int.natAbs_sub_le a (a.fmod b)) lt
    · have sp:=Zh4 hb hs
      have ha':a.natAbs ≠ 0:=Int.natAbs_ne_zero.mpr ha
      have k1:u2.natAbs ≤ y.natAbs:=Zcy (b:=a.natAbs) (Nat.le_trans (Nat.le_add_right _ _) h5) ha'
      have k2:v2.natAbs ≤ x.natAbs + 2 * y.natAbs:=Zcy (b:=a.natAbs) (Nat.le_trans (Nat.le_add_right _ _) h6) ha'
      exact ⟨h2,Nat.le_trans (Nat.le_of_lt lt) h2,k1,k2,ZgK (Zeu ..) sp h5,ZgK (Zeu ..) sp h6⟩
theorem Sh.done {x y a u1 v1 u2 v2:Int} (h:Sh x y a u1 v1 0 u2 v2):(a.natAbs:Int) = Int.gcd x y ∧ a = x * u1 + y * v1:=by
  have g:=h.g
  rw [Int.gcd_zero_right] at g
  refine ⟨by rw [g],?_⟩
  rw [Int.mul_comm x,Int.mul_comm y]; exact h.ea
end M1
namespace M2
def Prm (n:Int):Prop:=2 ≤ n ∧ ∀ d:Int,2 ≤ d → d * d ≤ n → ¬ d ∣ n
theorem sq_mono {a b:Int} (ha:0 ≤ a) (h:a ≤ b):a * a ≤ b * b:=Int.mul_le_mul h h ha (by omega)
theorem ZkA:Prm 2:=⟨by omega,fun d h1 h2 => by have:=sq_mono (a:=2) (by omega) h1; omega⟩
theorem Zji {n:Int} (h:2 ≤ n) (h2:n ≠ 2) (e:n % 2 = 0):¬ Prm n:=fun p => p.2 2 (by omega) (by omega) (Int.dvd_of_emod_eq_zero e)
theorem prm_even {n:Int} (h:2 ≤ n) (e:n % 2 = 0):Prm n ↔ n = 2:=by
  constructor
  · intro p
    refine Decidable.byContradiction fun z => Zji h z e p
  · rintro rfl
    exact ZkA
def No (n t:Int):Prop:=∀ d:Int,2 ≤ d → d < t → ¬ d ∣ n
theorem No.odd {n:Int} (e:¬ n % 2 = 0):No n 3:=fun d h1 h2 hd => by
  have:d = 2:=by omega
  subst this
  exact e (Int.emod_eq_zero_of_dvd hd)
theorem No.two {n:Int}:No n 2:=fun d h1 h2 => by omega
theorem No.one {n t:Int} (h:No n t) (hn:¬ t ∣ n):No n (t + 1):=fun d h1 h2 => by
  rcases (by omega:d < t ∨ d = t) with z | z
  · exact h d h1 z
  · rw [z]; exact hn
theorem No.next {n t:Int} (h:No n t) (e:¬ n % 2 = 0) (ho:t % 2 = 1) (hn:¬ t ∣ n):No n (t + 2):=fun d h1 h2 hd => by
  rcases (by omega:d < t ∨ d = t ∨ d = t + 1) with z | z | z
  · exact h d h1 z hd
  · rw [z] at hd; exact hn hd
  · have h2d:(2:Int) ∣ d:=Int.dvd_of_emod_eq_zero (by omega)
    exact e (Int.emod_eq_zero_of_dvd (Int.dvd_trans h2d hd))
theorem No.done {n t:Int} (h:No n t) (h2:2 ≤ n) (ht:0 ≤ t) (hl:¬ t * t ≤ n):Prm n:=⟨h2,fun d h1 hd => h d h1 (by
  refine Int.lt_of_not_ge fun z => hl ?_
  exact Int.le_trans (sq_mono ht z) hd)⟩
theorem found {n t:Int} (ht:2 ≤ t) (hl:t * t ≤ n) (hd:t ∣ n):¬ Prm n:=fun p => p.2 t ht hl hd
theorem le_of_sq {n t:Int} (ht:2 ≤ t) (hl:t * t ≤ n):t + t ≤ n:=by
  have:t * 2 ≤ t * t:=Int.mul_le_mul_of_nonneg_left ht (by omega)
  omega
theorem fmod_dvd {n t:Int} (ht:0 < t):n.fmod t = 0 ↔ t ∣ n:=by
  rw [Int.fmod_eq_emod_of_nonneg n (by omega)]
  exact ⟨Int.dvd_of_emod_eq_zero,Int.emod_eq_zero_of_dvd⟩
theorem Zh5:∀ d:Nat,d < 1000 → 2 ≤ d → 999983 % d ≠ 0:=by decide +kernel
theorem prm_big:Prm 999983:=by
  refine ⟨by omega,fun d h1 h2 hd => ?_⟩
  have hl:d < 1000:=by
    refine Int.lt_of_not_ge fun z => ?_
    have:=sq_mono (a:=1000) (by omega) z
    omega
  have e:=Int.emod_eq_zero_of_dvd hd
  refine Zh5 d.toNat (by omega) (by omega) ?_
  have ed:d = (d.toNat:Int):=by omega
  rw [ed] at e
  have e2:((999983 % d.toNat:Nat):Int) = 0:=by rw [Int.natCast_emod]; exact e
  exact Int.natCast_eq_zero.mp e2
theorem ZkB {p d:Int} (h:Prm p) (h1:1 < d) (hd:d ∣ p):d = p:=by
  obtain ⟨k,hk⟩:=hd
  have hp:=h.1
  refine Decidable.byContradiction fun z => ?_
  have kpos:0 < k:=by
    refine Int.lt_of_not_ge fun q => ?_
    have:=Int.mul_nonneg (show 0 ≤ d by omega) (show 0 ≤ -k by omega)
    rw [Int.mul_neg] at this
    omega
  have k1:k ≠ 1:=fun q => z (by rw [hk,q,Int.mul_one])
  rcases (by omega:d ≤ k ∨ k ≤ d) with q | q
  · exact h.2 d (by omega) (by rw [hk]; exact Int.mul_le_mul_of_nonneg_left q (by omega)) ⟨k,hk⟩
  · exact h.2 k (by omega) (by rw [hk]; exact Int.mul_le_mul_of_nonneg_right q (by omega)) ⟨d,by rw [hk,Int.mul_comm]⟩
theorem prm_gcd {p b:Int} (h:Prm p) (hb:¬ p ∣ b):Int.gcd b p = 1:=by
  have h1:=Int.gcd_dvd_right b p
  have h2:=Int.gcd_dvd_left b p
  have hp:=h.1
  have hne:Int.gcd b p ≠ 0:=fun z => by
    rw [z] at h1
    have:=Int.zero_dvd.mp h1
    omega
  refine Decidable.byContradiction fun z => hb ?_
  have e:=ZkB h (show (1:Int) < (Int.gcd b p:Int) by omega) h1
  rw [e] at h2
  exact h2
end M2
namespace M3
theorem ZbJ {a b c:Int} (h1:Int.gcd a c = 1) (h2:Int.gcd b c = 1):Int.gcd (a * b) c = 1:=by
  rw [Int.gcd_eq_natAbs_gcd_natAbs] at *
  rw [Int.natAbs_mul]
  exact Nat.Coprime.mul_left h1 h2
theorem ZbK {a b:Int} (h:Int.gcd a b = 1):Int.gcd b a = 1:=by rw [Int.gcd_comm]; exact h
theorem Zbu {a b c:Int} (h1:Int.gcd c a = 1) (h2:Int.gcd c b = 1):Int.gcd c (a * b) = 1:=ZbK (ZbJ (ZbK h1) (ZbK h2))
theorem ZgL {a b c:Int} (h:Int.gcd (a * b) c = 1):Int.gcd a c = 1:=by
  rw [Int.gcd_eq_natAbs_gcd_natAbs] at *
  rw [Int.natAbs_mul] at h
  exact Nat.Coprime.coprime_dvd_left ⟨b.natAbs,rfl⟩ h
theorem Zch {a b c:Int} (h:Int.gcd (a * b) c = 1):Int.gcd b c = 1:=ZgL (b:=a) (by rw [Int.mul_comm]; exact h)
theorem Zlt {a b c:Int} (h:Int.gcd c (a * b) = 1):Int.gcd c a = 1:=ZbK (ZgL (ZbK h))
theorem Zcz {a b c:Int} (h:Int.gcd c (a * b) = 1):Int.gcd c b = 1:=ZbK (Zch (ZbK h))
theorem Zfz {a b:Int} (hb:Int.gcd a b ≠ 0):∃ x y:Int,a = (Int.gcd a b:Int) * x ∧ b = (Int.gcd a b:Int) * y ∧ Int.gcd x y = 1:=by
  obtain ⟨x,hx⟩:=Int.gcd_dvd_left a b
  obtain ⟨y,hy⟩:=Int.gcd_dvd_right a b
  refine ⟨x,y,hx,hy,?_⟩
  have e:Int.gcd ((Int.gcd a b:Int) * x) ((Int.gcd a b:Int) * y) = Int.gcd a b * Int.gcd x y:=by
    rw [Int.gcd_mul_left]
    simp
  rw [← hx,← hy] at e
  have e2:Int.gcd a b * Int.gcd x y = Int.gcd a b * 1:=by omega
  exact Nat.eq_of_mul_eq_mul_left (Nat.pos_of_ne_zero hb) e2
theorem gcd_ne {a b:Int} (h:b ≠ 0):Int.gcd a b ≠ 0:=fun z => h (Int.gcd_eq_zero_iff.mp z).2
theorem Za8 {g x:Int} (hg:g ≠ 0):(g * x).fdiv g = x:=Int.mul_fdiv_cancel_left x hg
theorem ZdN {g x:Int} (hg:0 < g) (h:0 < g * x):0 < x:=by
  refine Int.lt_of_not_ge fun z => ?_
  have:=Int.mul_nonneg (Int.le_of_lt hg) (show 0 ≤ -x by omega)
  rw [Int.mul_neg] at this
  omega
theorem low {t b:Int} (hb:0 < b):Int.gcd (t.fdiv (Int.gcd t b)) (b.fdiv (Int.gcd t b)) = 1 ∧ 0 < b.fdiv (Int.gcd t b) ∧ t.fdiv (Int.gcd t b) * b = t * b.fdiv (Int.gcd t b) ∧
    (t.fdiv (Int.gcd t b)).natAbs ≤ t.natAbs ∧ (b.fdiv (Int.gcd t b)).natAbs ≤ b.natAbs:=by
  have hg:=gcd_ne (a:=t) (b:=b) (by omega)
  obtain ⟨x,y,hx,hy,c⟩:=Zfz hg
  generalize Int.gcd t b = g at *
  have hg':(g:Int) ≠ 0:=by omega
  subst hx hy
  rw [Za8 hg',Za8 hg']
  have yp:=ZdN (show (0:Int) < g by omega) hb
  refine ⟨c,yp,by ac_rfl,?_,?_⟩
  · rw [Int.natAbs_mul]; exact Nat.le_mul_of_pos_left _ (by omega)
  · rw [Int.natAbs_mul]; exact Nat.le_mul_of_pos_left _ (by omega)
theorem Zhk (g x:Int) (hg:g ≠ 0):x.natAbs ≤ (g * x).natAbs:=by
  rw [Int.natAbs_mul]; exact Nat.le_mul_of_pos_left _ (by omega)
theorem plus_ok {a1 b1 a2 b2:Int} (h1:0 < b1) (h2:0 < b2) (c1:Int.gcd a1 b1 = 1) (c2:Int.gcd a2 b2 = 1) {top:Int}
    (ht:top = a1 * b2.fdiv (Int.gcd b1 b2) + a2 * b1.fdiv (Int.gcd b1 b2)) :
    Int.gcd top (Int.gcd b1 b2) ≠ 0 ∧ 0 < b1.fdiv (Int.gcd b1 b2) * b2.fdiv (Int.gcd top (Int.gcd b1 b2)) ∧
    Int.gcd (top.fdiv (Int.gcd top (Int.gcd b1 b2))) (b1.fdiv (Int.gcd b1 b2) * b2.fdiv (Int.gcd top (Int.gcd b1 b2))) = 1 ∧
    top.fdiv (Int.gcd top (Int.gcd b1 b2)) * (b1 * b2) = (a1 * b2 + a2 * b1) * (b1.fdiv (Int.gcd b1 b2) * b2.fdiv (Int.gcd top (Int.gcd b1 b2))):=by
  have hg:=gcd_ne (a:=b1) (b:=b2) (by omega)
  obtain ⟨p,q,hp,hq,cpq⟩:=Zfz hg
  generalize hG:Int.gcd b1 b2 = g at *
  have hg':(g:Int) ≠ 0:=by omega
  have e1:b1.fdiv g = p:=by rw [hp]; exact Za8 hg'
  have e2:b2.fdiv g = q:=by rw [hq]; exact Za8 hg'
  rw [e1,e2] at ht
  rw [e1]
  have hl:=gcd_ne (a:=top) (b:=(g:Int)) hg'
  obtain ⟨t,r,ht2,hr,ctr⟩:=Zfz hl
  generalize hL:Int.gcd top g = l at *
  have hl':(l:Int) ≠ 0:=by omega
  have e3:top.fdiv l = t:=by rw [ht2]; exact Za8 hl'
  have e4:b2 = l * (r * q):=by rw [hq,hr]; ac_rfl
  have e5:b2.fdiv l = r * q:=by rw [e4]; exact Za8 hl'
  rw [e3,e5]
  have pp:0 < p:=ZdN (show (0:Int) < g by omega) (by rw [← hp]; exact h1)
  have rq:0 < r * q:=ZdN (show (0:Int) < l by omega) (by rw [← e4]; exact h2)
  have tp:Int.gcd top p = 1:=by
    rw [ht,Int.gcd_add_mul_right_left]
    exact ZbJ (Zcz (a:=g) (by rw [← hp]; exact c1)) (ZbK cpq)
  have tq:Int.gcd top q = 1:=by
    rw [ht,Int.add_comm,Int.gcd_add_mul_right_left]
    exact ZbJ (Zcz (a:=g) (by rw [← hq]; exact c2)) cpq
  rw [ht2] at tp tq
  refine ⟨hl,Int.mul_pos pp rq,Zbu (Zch tp) (Zbu ctr (Zch tq)),?_⟩
  have k1:a1 * b2 + a2 * b1 = g * (l * t):=by
    rw [← ht2,ht,Int.mul_add,hp,hq]
    congr 1 <;> ac_rfl
  rw [k1,hp,hq]
  have k2:(g:Int) * (l * t) * (p * (r * q)) = g * t * p * q * (l * r):=by ac_rfl
  rw [k2,← hr]
  ac_rfl
theorem times_ok {a1 b1 a2 b2:Int} (h1:0 < b1) (h2:0 < b2) (c1:Int.gcd a1 b1 = 1) (c2:Int.gcd a2 b2 = 1) :
    0 < b1.fdiv (Int.gcd a2 b1) * b2.fdiv (Int.gcd a1 b2) ∧
    Int.gcd (a1.fdiv (Int.gcd a1 b2) * a2.fdiv (Int.gcd a2 b1)) (b1.fdiv (Int.gcd a2 b1) * b2.fdiv (Int.gcd a1 b2)) = 1 ∧
    a1.fdiv (Int.gcd a1 b2) * a2.fdiv (Int.gcd a2 b1) * (b1 * b2) = a1 * a2 * (b1.fdiv (Int.gcd a2 b1) * b2.fdiv (Int.gcd a1 b2)):=by
  have hf:=gcd_ne (a:=a1) (b:=b2) (by omega)
  have hr:=gcd_ne (a:=a2) (b:=b1) (by omega)
  obtain ⟨x,y,hx,hy,cxy⟩:=Zfz hf
  obtain ⟨z,w,hz,hw,czw⟩:=Zfz hr
  generalize Int.gcd a1 b2 = f at *
  generalize Int.gcd a2 b1 = r at *
  have hf':(f:Int) ≠ 0:=by omega
  have hr':(r:Int) ≠ 0:=by omega
  have e1:a1.fdiv f = x:=by rw [hx]; exact Za8 hf'
  have e2:b2.fdiv f = y:=by rw [hy]; exact Za8 hf'
  have e3:a2.fdiv r = z:=by rw [hz]; exact Za8 hr'
  have e4:b1.fdiv r = w:=by rw [hw]; exact Za8 hr'
  rw [e1,e2,e3,e4]
  have yp:=ZdN (show (0:Int) < f by omega) (by rw [← hy]; exact h2)
  have wp:=ZdN (show (0:Int) < r by omega) (by rw [← hw]; exact h1)
  rw [hx,hw] at c1
  rw [hz,hy] at c2
  refine ⟨Int.mul_pos wp yp,ZbJ (Zbu (Zcz (Zch c1)) cxy) (Zbu czw (Zcz (Zch c2))),?_⟩
  rw [hx,hy,hz,hw]
  ac_rfl
theorem fdiv_le {a:Int} {g:Int} (h:g ∣ a) (hg:g ≠ 0):(a.fdiv g).natAbs ≤ a.natAbs:=by
  obtain ⟨x,rfl⟩:=h
  rw [Za8 hg]
  exact Zhk g x hg
end M3
namespace L2
open PySem PySem.Spec PyProof.Rows
structure XCls (K:PySem.W.Frag) (C:Addr):Prop where
  ga:PySem.W.findIn K (.ref C) "__getattribute__" = some (some (.builtin "BaseException.__getattribute__"))
  ha:PySem.W.findIn K (.ref C) "__getattr__" = some none
  cl:PySem.W.findIn K (.ref C) "__class__" = some (some (.builtin "object.__class__"))
  hn:PySem.W.specialIn K (.builtin "object.__class__") "__get__" = some (some (.builtin "getset_descriptor.__get__"))
  tk:PySem.W.takesIn K (.builtin "object.__class__") = some true
  ob:PySem.W.mroIn K C (.type "object") = some true
  be:PySem.W.mroIn K C (.type "BaseException") = some true
  hd:PySem.W.hasDictIn K C = true
section
variable {prog:Program} {w:World} {A:Around} {E:Value → Shared → Prop} {s:Shared} {K:PySem.W.Frag} {x C:Addr} {ox:Obj} {od:Option Obj}
theorem Zf3 {K:PySem.W.Frag} {C:Addr} {od:Option Obj} {name:Str} {a g:Value} (hc:(PySem.W.clsIn K C).isSome = true) (ha:PySem.W.findIn K (.ref C) name = some (some a)) (hg:PySem.W.specialIn K a "__get__" = some (some g)) (ht:PySem.W.takesIn K a = some true) :
    PySem.W.findObj K C od name = some (.bind g a):=by
  obtain ⟨cd,hc⟩:=Option.isSome_iff_exists.mp hc
  unfold PySem.W.findObj
  rw [hc,Option.bind_some,ha,Option.bind_some]
  simp [hg,ht]
theorem Zh6 (c:XCls K C) {tk:Tok} {R:Result → Shared → Prop} (X:K.In s.heap) (I:PySem.W.InstAt s.heap x ox C od) (h:R (.ok (.ret (.ref C))) s) :
    codeAny (model prog w) A (.call (.builtin "BaseException.__getattribute__") ⟨[.ref x,.str "__class__" tk],[]⟩) R s:=by
  have hf:PySem.W.findObj K C od "__class__" = some (.bind (.builtin "getset_descriptor.__get__") (.builtin "object.__class__")):=Zf3 (by obtain ⟨cd,hc,_⟩:=PySem.W.any_some c.hd; rw [hc]; rfl) c.cl c.hn c.tk
  obtain ⟨hh,gg,d,t,os⟩:=s
  have L0:=I.type (M:=model prog w)
  have LF:=PySem.W.looks_find (M:=model prog w) X I hf
  have LB:PySem.W.Looks (model prog w) hh (isInstance (.ref x) (.type "BaseException")) true:=L0.andThen (PySem.W.looks_mroIn X c.be)
  have LG:=PySem.W.looks_mroIn (M:=model prog w) X c.be
  refine codeAny_call_builtin F.excAttr_ValueError.ga.plain F.entry_bexc_ga ?_
  have hk:builtinKind "BaseException.__getattribute__" = some .slot:=by decide +kernel
  have hsplit:splitId "BaseException.__getattribute__" = some ("BaseException", "__getattribute__"):=by decide +kernel
  have ha:=F.args_bexc_ga (.ref x) (.str "__class__" tk)
  simp only [checkBuiltinCall,hk,hsplit]
  refine wpAny_bind (LB.at ?_)
  simp only [Bool.not_true,Bool.false_eq_true,if_false]
  refine wpAny_of_eq ha ?_
  refine wpAny_bind (wpAny_pure (wpAny_bind (wpAny_pure (wpAny_bind (L0.at (wpAny_bind (LF.at ?_)))))))
  show wpAny _ _ (holding [Value.builtin "object.__class__"] (call (.builtin "getset_descriptor.__get__") [.builtin "object.__class__", .ref x,.ref C]) >>= ret) _ _ _
  exact wpAny_bind (wpAny_holding (wpAny_call (PySem.W.class_get (s:=⟨hh,gg,d,t,os⟩) X I c.ob (wpAny_pure h))))
theorem Zh7 (c:XCls K C) {Q:Option Value → Shared → Prop} (X:K.In s.heap) (I:PySem.W.InstAt s.heap x ox C od) (h:Q (some (.ref C)) { s with toks:=s.toks + 1 }):wpAny (model prog w) A (getAttr? (.ref x) "__class__") Q E s:=by
  have L0:=I.type (M:=model prog w)
  have L1:=PySem.W.looks_findIn (M:=model prog w) X c.ga
  have L3:=PySem.W.looks_findIn (M:=model prog w) X c.ha
  obtain ⟨hh,g,d,t,os⟩:=s
  unfold getAttr? getAttrBy? getAttrBy
  refine wpAny_bind (wpAny_mkText (wpAny_bind (wpAny_attempt (wpAny_holding (wpAny_bind (L0.at (wpAny_bind (L1.at ?_))))))))
  show wpAny _ _ (getAttrByItsOwn _ _ _ _ _ _) _ _ _
  unfold getAttrByItsOwn
  refine wpAny_bind (L3.at ?_)
  refine wpAny_bind (wpAny_attempt (wpAny_holding ?_))
  show wpAny _ _ (boundAndCalled _ _ _) _ _ _
  unfold boundAndCalled
  refine wpAny_bind (wpAny_of_eq (F.excAttr_ValueError.ga.bind (.ref x)) ?_)
  refine wpAny_call (Zh6 (s:=⟨hh,g,d,t + 1,os⟩) c X I ?_)
  exact PySem.W.handed_on rfl (wpAny_pure h)
theorem Zjj (c:XCls K C):PySem.W.KitX K (.ref x) (.ref C) (fun h => ∃ ox od,PySem.W.InstAt h x ox C od) where
  ty:=fun _ _ _ ⟨_,_,I⟩ => I.type
  it:=fun _ _ X _ => by
    obtain ⟨cdD,hcD,_⟩:=PySem.W.any_some c.hd
    unfold PySem.W.clsIn at hcD
    split at hcD
    · rename_i c' d' cd' sl' ho
      intro A' Q' E' s' k q
      unfold isType loadHead
      exact wpAny_bind (wpAny_loadPart (k _ _ (X _ _ ho)) (wpAny_pure q))
    · cases hcD
  ne:=fun h tp dd its n sl X htp => by
    obtain ⟨cdD,hcD,_⟩:=PySem.W.any_some c.hd
    refine Bool.eq_false_iff.mpr fun q => ?_
    have e:C = tp:=Value.ref.inj (beq_iff_eq.mp q)
    subst e
    unfold PySem.W.clsIn at hcD
    split at hcD
    · rename_i c' d' cd' sl' ho
      exact nomatch (X _ _ ho).symm.trans htp
    · cases hcD
  ca:=fun X ⟨_,_,I⟩ k => Zh7 c X I k
end
end L2
namespace L2
open PySem PySem.Spec PyProof.Rows
def Tr (h B:Heap) (e:Addr) (cls a0:Value) (dd:Option Addr) (fl:Value):Prop :=
  ∃ oe vs T oT ts,h.get? e = some oe ∧ oe.cls = cls ∧ oe.dict = dd ∧ oe.data = .fields vs ∧ vs[0]? = some a0 ∧ vs[1]? = some (.ref T) ∧ B.get? T = none ∧ T ≠ e ∧ h.get? T = some oT ∧ oT.data = .fields ts ∧ ts[3]? = some fl
theorem Zej (o:Obj) (f):(o.mapFields f).dict = o.dict:=by
  obtain ⟨c,d,dt,sl⟩:=o
  cases dt <;> rfl
theorem Zb1 {h:Heap} {a:Addr} {o:Obj} {vs:Array Value} (f:Array Value → Array Value) (ho:h.get? a = some o) (hd:o.data = .fields vs):h.UpToSlots (h.update a (Obj.mapFields f)):=fun b u e n =>
  ⟨u.slots,by
    rw [Heap.get?_update_other _ _ fun z => by subst z; rw [ho] at e; cases e; exact n vs hd]
    exact e⟩
theorem ZcV {h h' B:Heap} {l:List Env} (u:h.UpToSlots h') (f:h.FunFrames B l):h'.FunFrames B l:=f.of_keeps fun b o e n => let ⟨sl,q⟩:=u b o e n; ⟨_,q,rfl⟩
section
variable {M:Model} {A:Around} {E:Value → Shared → Prop} {s:Shared} {B:Heap} {env:Env} {outer:List Env} {L e:Addr} {oe:Obj} {vs:Array Value} {cls a0:Value} {dd:Option Addr} {Q:Unit → Shared → Prop}
theorem ZfA {hd0:Value} {hn:Bool} (hfr:A.frames = some (env :: outer)) (fl:s.heap.FunFrames B (env :: outer)) (hf:env.frame = some L) (he:s.heap.get? e = some oe) (st:B.StaysIn s.heap) (nb:B.get? e = none) (hd:oe.data = .fields vs)
    (h0:vs[0]? = some a0) (hz:1 < vs.size) (k:∀ h',B.StaysIn h' → h'.FunFrames B (env :: outer) → Tr h' B e oe.cls a0 oe.dict (rawInt L) → s.heap.UpToSlots h' → Q () { s with heap:=h' }) :
    wpAny M A (do let a ← frameOf env; let pl ← entryPlaceOf L hn; let b ← EntryCells.newEntry hd0 a .none (rawInt L) .none pl; setField (.ref e) 1 b) Q E s:=by
  have notf:e ∉ (env :: outer).filterMap (·.frame):=fun hm => by
    obtain ⟨_,o,ho,n⟩:=fl.mem hm
    rw [he] at ho; cases ho; exact n vs hd
  refine wpAny_bind (wpAny_frameOf_fun hfr fl hf fun h1 so => wpAny_bind (wpAny_entryPlaceOf fun pl hpl => ?_))
  have u1:s.heap.UpToSlots h1:=fun b o q _ => so.2.2 b o q
  have st1:B.StaysIn h1:=fun b o q => (so.2.1 b fun hm => by rw [(fl.mem hm).1] at q; cases q).trans (st b o q)
  have he1:h1.get? e = some oe:=(so.2.1 e notf).trans he
  unfold EntryCells.newEntry newFields
  refine wpAny_bind (wpAny_newObj_type ?_ (hpl.sizeOk5 _ _ _ _ _))
  generalize ht:([hd0,Value.ref L,.none,rawInt L,.none] ++ (if pl.isEmpty then List.replicate 6 Value.none else pl)).toArray = ts
  have ht3:ts[3]? = some (rawInt L):=by rw [← ht]; simp
  have he2:=Heap.get?_push_of_some (h:=h1) { cls:=.type "traceback", dict:=none,data:=.fields ts } he1
  refine wpAny_setField he2 hd hz (k _ ?_ ?_ ?_ ?_)
  · intro b o q
    rw [Heap.get?_update_other _ _ fun z => by subst z; rw [nb] at q; cases q]
    exact Heap.get?_push_of_some _ (st1 b o q)
  · exact ZcV ((u1.trans (.of_keeps fun b o q => Heap.get?_push_of_some _ q)).trans (Zb1 _ he2 hd)) fl
  · have nT:h1.objs.size ≠ e:=Nat.ne_of_gt (Heap.lt_size he1)
    refine ⟨_,_,h1.objs.size,{ cls:=.type "traceback", dict:=none,data:=.fields ts },ts,Heap.get?_update_self _ he2 (Obj.isFreed_of_fields (Obj.data_mapFields hd _)),Obj.cls_mapFields _ _,Zej _ _,Obj.data_mapFields hd _,?_,?_,st1.fresh,nT,?_,rfl,ht3⟩
    · rw [Array.getElem?_setIfInBounds_ne (by decide)]; exact h0
    · simp [hz]
    · rw [Heap.get?_update_other _ _ (Ne.symm nT)]
      exact Heap.get?_push_size h1 rfl
  · exact (u1.trans (.of_keeps fun b o q => Heap.get?_push_of_some _ q)).trans (Zb1 _ he2 hd)
theorem Zhl (hfr:A.frames = some (env :: outer)) (fl:s.heap.FunFrames B (env :: outer)) (hf:env.frame = some L) (he:s.heap.get? e = some oe) (st:B.StaysIn s.heap) (nb:B.get? e = none) (hd:oe.data = .fields vs)
    (h0:vs[0]? = some a0) (h1:vs[1]? = some .none) (k:∀ h',B.StaysIn h' → h'.FunFrames B (env :: outer) → Tr h' B e oe.cls a0 oe.dict (rawInt L) → s.heap.UpToSlots h' → Q () { s with heap:=h' }) :
    wpAny M A (noteFrame (.ref e) env) Q E s:=by
  unfold noteFrame
  simp only [hf]
  refine wpAny_bind (wpAny_field he hd h1 ?_)
  rw [if_neg (by decide)]
  exact ZfA hfr fl hf he st nb hd h0 (Array.getElem?_eq_some_iff.mp h1).1 k
theorem Zh8 (hfr:A.frames = some (env :: outer)) (fl:s.heap.FunFrames B (env :: outer)) (hf:env.frame = some L) (tr:Tr s.heap B e cls a0 dd .none) (st:B.StaysIn s.heap) (nb:B.get? e = none)
    (k:∀ h',B.StaysIn h' → h'.FunFrames B (env :: outer) → Tr h' B e cls a0 dd (rawInt L) → s.heap.UpToSlots h' → Q () { s with heap:=h' }):wpAny M A (noteFrame (.ref e) env) Q E s:=by
  obtain ⟨oe,vs,T,oT,ts,he,rfl,rfl,hd,h0,h1,nT,hTe,hT,hdT,h3⟩:=tr
  unfold noteFrame
  simp only [hf]
  refine wpAny_bind (wpAny_field he hd h1 ?_)
  rw [if_pos (show (Value.ref T != Value.none) = true from by simp)]
  refine wpAny_bind (wpAny_field hT hdT h3 ?_)
  rw [if_neg (show ¬ ((Value.none == rawInt L) = true) from by simp [rawInt])]
  have u:=Zb1 (·.setIfInBounds 3 Value.none) hT hdT
  refine wpAny_bind (wpAny_setField hT hdT (Array.getElem?_eq_some_iff.mp h3).1 (ZfA (s:={ s with heap:=s.heap.update T (Obj.mapFields (·.setIfInBounds 3 Value.none)) }) hfr (ZcV u fl) hf (by rw [Heap.get?_update_other _ _ hTe]; exact he) (fun b o q => ?_) nb hd h0 (Array.getElem?_eq_some_iff.mp h1).1 fun h' a b c d => k h' a b c (u.trans d)))
  rw [Heap.get?_update_other _ _ fun z => by subst z; rw [nT] at q; cases q]
  exact st b o q
theorem Zjk {fl0:Value} {l:List Env} (fl:s.heap.FunFrames B l) (tr:Tr s.heap B e cls a0 dd fl0) (st:B.StaysIn s.heap)
    (k:∀ h',B.StaysIn h' → h'.FunFrames B l → Tr h' B e cls a0 dd .none → s.heap.UpToSlots h' → Q () { s with heap:=h' }):wpAny M A (setFlight (.ref e) none) Q E s:=by
  obtain ⟨oe,vs,T,oT,ts,he,rfl,rfl,hd,h0,h1,nT,hTe,hT,hdT,h3⟩:=tr
  have h3':3 < ts.size:=(Array.getElem?_eq_some_iff.mp h3).1
  have u:=Zb1 (·.setIfInBounds 3 ((none:Option Addr).elim Value.none fun f => rawInt f)) hT hdT
  unfold setFlight
  refine wpAny_bind (wpAny_field he hd h1 ?_)
  rw [if_pos (show (Value.ref T != Value.none) = true from by simp)]
  refine wpAny_setField hT hdT h3' (k _ (fun b o q => ?_) (ZcV u fl) ⟨oe,vs,T,_,_,?_,rfl,rfl,hd,h0,h1,nT,hTe,Heap.get?_update_self _ hT (Obj.isFreed_of_fields (Obj.data_mapFields hdT _)),Obj.data_mapFields hdT _,by simp [h3']⟩ u)
  · rw [Heap.get?_update_other _ _ fun z => by subst z; rw [nT] at q; cases q]
    exact st b o q
  · rw [Heap.get?_update_other _ _ hTe]; exact he
end
end L2
namespace L2
open PySem PySem.Spec PyProof.Rows
structure Air (P:Program) (w:World) (B:Heap) (l:List Env) (H:Hp) (h:Heap) (e t:Addr) (cls:Value) (dd:Option Addr) (fl:Value):Prop where
  hok:HOk P w H h
  st:B.StaysIn h
  nb:B.get? e = none
  fr:h.FunFrames B l
  tr:Tr h B e cls (.ref t) dd fl
  tk:∀ b u,H b = some u → ∃ o,B.get? b = some o
theorem Air.free {P:Program} {w:World} {B:Heap} {l:List Env} {H:Hp} {h:Heap} {e t:Addr} {cls:Value} {dd:Option Addr} {fl:Value} (a:Air P w B l H h e t cls dd fl):H e = none:=by
  cases q:H e with
  | none => rfl
  | some u => obtain ⟨o,z⟩:=a.tk e u q; rw [a.nb] at z; cases z
theorem Zh9 {P:Program} {w:World} {B:Heap} {H:Hp} {h h':Heap} (x:HOk P w H h) (st:B.StaysIn h) (st':B.StaysIn h') (tk:∀ b u,H b = some u → ∃ o,B.get? b = some o):HOk P w H h':=fun a o e =>
  (x a o e).stay (fun b u hb q => by
    have:∃ v,H b = some v:=by
      rcases hb with rfl | hb
      · exact ⟨o,e⟩
      · exact ⟨_,hb⟩
    obtain ⟨v,hv⟩:=this
    obtain ⟨ob,z⟩:=tk b v hv
    have e2:=(st b ob z).symm.trans q
    cases e2
    exact st' b _ z) (fun _ q => q) fun _ _ q => q
def CXx (P:Program) (w:World):CXT:=fun outer H s E ev s' =>
  ∃ (e t:Addr) (cls:Value) (dd:Option Addr) (H':Hp) (B:Heap),ev = .ref e ∧ s'.os = s.os ∧ AllBare s'.gens ∧ Un (frs outer) [] H H' s.heap s'.heap ∧ Air P w B outer H' s'.heap e t cls dd .none ∧
    (∀ b o,s.heap.get? b = some o → H b = none → b ∉ frs outer → B.get? b = some o) ∧ (∀ b o,s.heap.get? b = some o → b ∉ frs outer → ∃ o',B.get? b = some o') ∧ E cls dd H'
section
variable {M:Model} {A:Around} {E:Value → Shared → Prop} {s:Shared} {P:Program} {w:World} {B:Heap} {env:Env} {outer:List Env} {H:Hp} {L e t:Addr} {cls:Value} {dd:Option Addr} {fl:Value} {Q:Unit → Shared → Prop} {B0:Heap}
theorem Air.note (a:Air P w B (env :: outer) H s.heap e t cls dd .none) (hfr:A.frames = some (env :: outer)) (hf:env.frame = some L) (k:∀ h',Air P w B (env :: outer) H h' e t cls dd (rawInt L) → s.heap.UpToSlots h' → Q () { s with heap:=h' }) :
    wpAny M A (noteFrame (.ref e) env) Q E s :=
  Zh8 hfr a.fr hf a.tr a.st a.nb fun h' st fr tr up => k h' ⟨Zh9 a.hok a.st st a.tk,st,a.nb,fr,tr,a.tk⟩ up
theorem Air.off {l:List Env} (a:Air P w B l H s.heap e t cls dd fl) (k:∀ h',Air P w B l H h' e t cls dd .none → s.heap.UpToSlots h' → Q () { s with heap:=h' }):wpAny M A (setFlight (.ref e) none) Q E s :=
  Zjk a.fr a.tr a.st fun h' st fr tr up => k h' ⟨Zh9 a.hok a.st st a.tk,st,a.nb,fr,tr,a.tk⟩ up
theorem Air.leave (a:Air P w B (env :: outer) H s.heap e t cls dd .none) (hfr:A.frames = some (env :: outer)) (hf:env.frame = some L) (k:∀ h',Air P w B outer H h' e t cls dd .none → s.heap.UpToSlots h' → Q () { s with heap:=h' }) :
    wpAny M A (leaving env (.ref e)) Q E s:=by
  unfold leaving
  refine wpAny_bind (a.note hfr hf fun h1 a1 u1 => ?_)
  refine Air.off (s:={ s with heap:=h1 }) a1 fun h2 a2 u2 => ?_
  obtain ⟨_,_,fr⟩:=a2.fr
  exact k h2 ⟨a2.hok,a2.st,a2.nb,fr,a2.tr,a2.tk⟩ (u1.trans u2)
theorem ZkC {s0:Heap} {vs:List Value} (hok:HOk P w H s0) (fl0:s0.FunFrames B0 (env :: outer)) (hm:Heap.MadeExcOf s0 s.heap e cls vs) (hn:∀ b ∈ frs (env :: outer),H b = none) (hfr:A.frames = some (env :: outer)) (hf:env.frame = some L)
    (k:∀ h' t,Air P w (PySem.W.hideAll s0 (frs (env :: outer))) (env :: outer) H h' e t cls none (rawInt L) → s0.UpToSlots h' → Q () { s with heap:=h' }):wpAny M A (noteFrame (.ref e) env) Q E s:=by
  obtain ⟨t,he,_,_⟩:=hm.there
  have st0:(PySem.W.hideAll s0 (frs (env :: outer))).StaysIn s0:=fun b o q => PySem.W.of_hideAll _ q
  have st:(PySem.W.hideAll s0 (frs (env :: outer))).StaysIn s.heap:=fun b o q => hm.keeps b o (st0 b o q)
  have tk:∀ b u,H b = some u → ∃ o,(PySem.W.hideAll s0 (frs (env :: outer))).get? b = some o:=fun b u q => by
    have lt:=hok.lt q
    obtain ⟨o,ho⟩:∃ o,s0.get? b = some o:=by
      have x:=hok b u q
      cases u with
      | lst xs => obtain ⟨_,_,_,_,z⟩:=x; exact ⟨_,z⟩
      | tup xs => obtain ⟨_,_,_,o,z,_⟩:=x; exact ⟨_,z⟩
      | dK kvs => obtain ⟨_,_,_,_,o,_,_,z,_⟩:=x; exact ⟨_,z⟩
      | dT kvs => obtain ⟨_,_,_,_,o,_,_,z,_⟩:=x; exact ⟨_,z⟩
      | set S n => obtain ⟨o,_,_,_,z,_⟩:=x; exact ⟨_,z⟩
      | ins C dx fs => obtain ⟨_,_,_,z,_⟩:=x; exact ⟨_,z⟩
      | own y => obtain ⟨_,z⟩:=x; exact ⟨_,z⟩
      | xd fs => obtain ⟨_,⟨_,_,_,z,_⟩,_⟩:=x; exact ⟨_,z⟩
      | rng lo hi => obtain ⟨_,_,_,z⟩:=x; exact ⟨_,z⟩
      | frz ob v => obtain ⟨z,_⟩:=x; exact ⟨_,z⟩
      | tbl ps => exact ⟨_,(show s0.get? b = some _ from x)⟩
      | met f y => exact ⟨_,(show s0.get? b = some _ from x)⟩
      | ext φ => obtain ⟨_,⟨_,z⟩,_⟩:=x; exact ⟨_,z⟩
    exact ⟨o,PySem.W.hideAll_get _ ho fun hm => by rw [hn b hm] at q; cases q⟩
  have nb:(PySem.W.hideAll s0 (frs (env :: outer))).get? e = none:=by
    cases q:(PySem.W.hideAll s0 (frs (env :: outer))).get? e with
    | none => rfl
    | some o => have:=st0 e o q; rw [hm.new] at this; cases this
  have fl1:s0.FunFrames (PySem.W.hideAll s0 (frs (env :: outer))) (env :: outer):=PySem.W.funFrames_hide fl0 fun x hx a ha => List.mem_filterMap.mpr ⟨x,hx,ha⟩
  refine Zhl hfr (ZcV (.of_keeps hm.keeps) fl1) hf he st nb rfl rfl rfl fun h' st' fr tr up => ?_
  exact k h' t ⟨Zh9 hok st0 st' tk,st',nb,fr,tr,tk⟩ ((Heap.UpToSlots.of_keeps hm.keeps).trans up)
end
end L2
namespace L2
open PySem PySem.Spec PyProof.Rows
theorem Zia {env:Env} {outer:List Env} {L b:Addr} (hf:env.frame = some L):b ∈ frs (env :: outer) ↔ b = L ∨ b ∈ frs outer:=by
  unfold frs
  rw [List.filterMap_cons,hf,List.mem_cons]
section
variable {X:Cx} {pins:List (Addr × Obj)} {σ:St} {H1 H2:Hp} {s1:Shared} {B h2 h3:Heap}
theorem Zf4 (U:Un (frs X.stack) [] H1 H2 s1.heap h2) (fr:h2.FunFrames B X.stack) (up:h2.UpToSlots h3) (st:B.StaysIn h3) (in1:∀ b o,s1.heap.get? b = some o → H1 b = none → b ∉ frs X.stack → B.get? b = some o)
    (in2:∀ b o,s1.heap.get? b = some o → b ∉ frs X.stack → ∃ o',B.get? b = some o'):Un (frs X.stack) [] H1 H2 s1.heap h3 where
  keep:=fun b o q n hb _ => st b o (in1 b o q n hb)
  slot:=fun b o q n hb hx => by
    obtain ⟨sl,e⟩:=U.slot b o q n hb hx
    obtain ⟨_,o',e',nf⟩:=fr.mem hb
    rw [e] at e'
    cases e'
    obtain ⟨sl',e2⟩:=up b _ e nf
    exact ⟨sl',e2⟩
  free:=U.free
  there:=fun b o q hx => by
    by_cases hb:b ∈ frs X.stack
    · obtain ⟨_,o',e',nf⟩:=fr.mem hb
      obtain ⟨sl,e2⟩:=up b _ e' nf
      exact ⟨_,e2⟩
    · obtain ⟨o',z⟩:=in2 b o q hb
      exact ⟨o',st b o' z⟩
  tups:=U.tups
  frzs:=U.frzs
  tbls:=U.tbls
theorem Zib (I:Inv X pins σ H1 s1) (hx:X.ex = []) (hs:X.stack = X.env :: X.outer) (hf:X.env.frame = some X.env.locals) (U:Un (frs X.stack) [] H1 H2 s1.heap h2) (fr:h2.FunFrames B X.stack) (up:h2.UpToSlots h3) (st:B.StaysIn h3)
    (in1:∀ b o,s1.heap.get? b = some o → H1 b = none → b ∉ frs X.stack → B.get? b = some o) (in2:∀ b o,s1.heap.get? b = some o → b ∉ frs X.stack → ∃ o',B.get? b = some o') :
    Un X.fs [] X.H₀ H2 X.s₀.heap h3 ∧ (∀ b o,X.s₀.heap.get? b = some o → X.H₀ b = none → b ∉ X.fs → B.get? b = some o) ∧ ∀ b o,X.s₀.heap.get? b = some o → b ∉ X.fs → ∃ o',B.get? b = some o':=by
  have V:=Zf4 U fr up st in1 in2
  have ib:Un X.fs [] X.H₀ H1 X.s₀.heap s1.heap:=by have:=I.base; rw [hx] at this; exact this
  have ne:∀ b o,X.s₀.heap.get? b = some o → b ≠ X.env.locals:=fun b o q z => by
    subst z
    exact absurd (Nat.lt_of_lt_of_le (Heap.lt_size q) I.ok.above) (Nat.lt_irrefl _)
  have nm:∀ b o,X.s₀.heap.get? b = some o → b ∉ X.fs → b ∉ frs X.stack:=fun b o q hb z => by
    rw [hs] at z
    rcases (Zia hf).mp z with e | e
    · exact ne b o q e
    · exact hb e
  have sub:∀ b,b ∈ X.fs → b ∈ frs X.stack:=fun b hb => by rw [hs]; exact (Zia hf).mpr (.inr hb)
  refine ⟨⟨fun b o q n hb hx => ?_,fun b o q n hb hx => ?_,fun b o q n hx => ?_,fun b o q hx => ?_,fun b xs q => V.tups b xs (ib.tups b xs q),fun b o u q => V.frzs b o u (ib.frzs b o u q),fun b ps q => ?_⟩,fun b o q n hb => ?_,fun b o q hb => ?_⟩
  · exact V.keep b o (ib.keep b o q n hb hx) (ib.free b o q n hx) (nm b o q hb) hx
  · obtain ⟨sl,e⟩:=ib.slot b o q n hb hx
    obtain ⟨sl',e'⟩:=V.slot b _ e (ib.free b o q n hx) (sub b hb) hx
    exact ⟨sl',e'⟩
  · obtain ⟨o',e⟩:=ib.there b o q hx
    exact V.free b o' e (ib.free b o q n hx) hx
  · obtain ⟨o',e⟩:=ib.there b o q hx
    exact V.there b o' e hx
  · obtain ⟨m1,e1⟩:=ib.tbls b ps q
    obtain ⟨m2,e2⟩:=V.tbls b _ e1
    exact ⟨m1 ++ m2,by rw [e2,Array.append_assoc]⟩
  · exact in1 b o (ib.keep b o q n hb (by simp)) (ib.free b o q n (by simp)) (nm b o q hb)
  · obtain ⟨o',e⟩:=ib.there b o q (by simp)
    exact in2 b o' e (nm b o q hb)
end
section
variable {P:Program} {w:World} {K:PySem.W.Frag} {mg:Str → Option Value} {base:Heap} {N:List Str} {qual:Str} {scope:Scope} {f:Addr} {cd:Value} {A:Around} {outer:List Env} {s:Shared} {H:Hp} {E:XK}
abbrev cxX (P:Program) (w:World) (K:PySem.W.Frag) (mg:Str → Option Value) (base:Heap) (N:List Str) (qual:Str) (scope:Scope) (f:Addr) (cd:Value) (A:Around) (outer:List Env) (s:Shared) (H:Hp) (E:XK):Cx :=
  ZjW (CXx P w) P w K mg base N qual scope f cd A outer s H E
def Zf5 (X:Cx) (E:St → XK):Prop:=∀ (pins:List (Addr × Obj)) (σ:St) (H:Hp) (s:Shared) (e:Value) (s':Shared),Inv X pins σ H s → CXx X.prog X.w X.stack H s (E σ) e s' → X.xe e s'
theorem ZkD:Zf5 (cxX P w K mg base N qual scope f cd A outer s H E) fun _ => E:=by
  intro pins σ H1 s1 ev s2 I h
  obtain ⟨e,t,cls,dd,H2,B,rfl,os,bare,U,a,in1,in2,q⟩:=h
  show wpAny (model P w) (A.deeper (envOfC qual scope s.heap.objs.size f cd)) (leaving (envOfC qual scope s.heap.objs.size f cd) (.ref e)) _ _ s2
  have hfr:=I.ok.frames
  refine Air.leave (L:=s.heap.objs.size) a hfr rfl fun h3 a3 up => ?_
  obtain ⟨u,i1,i2⟩:=Zib I rfl rfl rfl U a.fr up a3.st in1 in2
  exact ⟨e,t,cls,dd,H2,B,rfl,os.trans I.os,bare,u,a3,i1,i2,q⟩
theorem ZeQ {X:Cx}:Zf5 X fun _ => E0:=fun _ _ _ _ _ _ _ ⟨_,_,_,_,_,_,_,_,_,_,_,_,_,q⟩ => q.elim
def Zic (X:Cx) (E:XK):Prop:=∀ (pins:List (Addr × Obj)) (σ:St) (H:Hp) (s:Shared) (h':Heap) (e:Addr) (cls:Value) (vs:List Value),Inv X pins σ H s → Heap.MadeExcOf s.heap h' e cls vs → E cls none H → X.xe (.ref e) { s with heap:=h' }
theorem ZfB:Zic (cxX P w K mg base N qual scope f cd A outer s H E) E:=by
  intro pins σ H1 s1 h' e cls vs I hm q
  show wpAny (model P w) (A.deeper (envOfC qual scope s.heap.objs.size f cd)) (leaving (envOfC qual scope s.heap.objs.size f cd) (.ref e)) _ _ _
  have hfr:=I.ok.frames
  unfold leaving
  refine wpAny_bind (ZkC (s:={ s1 with heap:=h' }) I.hok I.stack hm I.stkFree hfr rfl fun h2 t a2 u2 => ?_)
  refine Air.off (s:={ s1 with heap:=h2 }) a2 fun h3 a3 u3 => ?_
  obtain ⟨_,_,fr⟩:=a3.fr
  have fr0:s1.heap.FunFrames (PySem.W.hideAll s1.heap (frs (cxX P w K mg base N qual scope f cd A outer s H E).stack)) (cxX P w K mg base N qual scope f cd A outer s H E).stack:=PySem.W.funFrames_hide I.stack fun x hx a ha => List.mem_filterMap.mpr ⟨x,hx,ha⟩
  obtain ⟨u,i1,i2⟩:=Zib I rfl rfl rfl .refl fr0 (u2.trans u3) a3.st (fun b o e _ hb => PySem.W.hideAll_get _ e hb) (fun b o e hb => ⟨o,PySem.W.hideAll_get _ e hb⟩)
  exact ⟨e,t,cls,none,H1,_,rfl,I.os,I.bare,u,⟨a3.hok,a3.st,a3.nb,fr,a3.tr,a3.tk⟩,i1,i2,q⟩
theorem Fun.okx {x qual:Str} {st:Stmt} {f:Addr} {fd:FuncData} {N ps:List Str} {k:Nat} {sp:Sp} (F:Fun K x qual st f fd) (S:FnScope N ps (Zag st)) (len:∀ vs H Q E,sp vs H Q E → vs.length = ps.length)
    (hbody:∀ (cdv:Value) (A:Around) (outer:List Env) (s:Shared) (H:Hp) (vs:List V) (Q:VK) (E:XK),Room k (A.deeper (envOfC qual (Zag st) s.heap.objs.size f cdv)) → sp vs H Q E →
      ∃ t,PSs (cxX P w K mg base N qual (Zag st) f cdv A outer s H E) (Za5 st) t ∧ t { nx:=fun _ H' => Q .non H',rt:=Q } (start N vs) H):FnOk P w K mg base (CXx P w) (k + 1) f fd ps sp:=by
  obtain ⟨oc,od,kV,doc,pm,an,cdv,ct,osl,rfl,lk,hcd⟩:=F.ex
  exact Zje lk hcd S len fun A outer s H vs Q E hr hsp => hbody cdv A outer s H vs Q E hr hsp
end
theorem PS.nox {X:Cx} {st:Stmt} {t:TS} (h:PS X.nox st t):PS X st t:=fun pins s σ H D I hw =>
  wpAny_mono (h pins s σ H D (I.wish _) hw) (fun _ _ q => q.unwish) fun _ _ z => False.elim z
structure HasX (P:Program) (w:World) (K:PySem.W.Frag) (mg:Str → Option Value) (base:Heap) (x:Str) (k:Nat) (ps:List Str) (sp:Sp):Prop where
  ex:∃ (f:Addr) (fd:FuncData),FnOk P w K mg base (CXx P w) k f fd ps sp ∧ mg x = some (.ref f) ∧ PySem.W.keepIn K (.ref f) = true ∧ Binds K fd ps []
structure HasMX (P:Program) (w:World) (K:PySem.W.Frag) (mg:Str → Option Value) (base:Heap) (C:Addr) (m:Str) (k:Nat) (ps:List Str) (dvs:List V) (sp:Sp):Prop where
  ex:∃ (f:Addr) (fd:FuncData) (ds:List Value),FnOk P w K mg base (CXx P w) k f fd ps sp ∧ Meth K C m f ∧ Binds K fd ps ds ∧ Vals dvs ds
structure HasIX (P:Program) (w:World) (K:PySem.W.Frag) (mg:Str → Option Value) (base:Heap) (C:Addr) (k:Nat) (ps:List Str) (sp:Sp):Prop where
  ex:∃ (f:Addr) (fd:FuncData),Mk K C f ∧ FnOk P w K mg base (CXx P w) k f fd ps sp ∧ Binds K fd ps []
section
variable {P:Program} {w:World} {K:PySem.W.Frag} {mg:Str → Option Value} {base:Heap} {x m qual:Str} {C:Addr} {st:Stmt} {j k:Nat} {ps:List Str} {dvs:List V} {sp:Sp}
theorem HasX.mono (h:HasX P w K mg base x j ps sp) (e:j ≤ k):HasX P w K mg base x k ps sp:=let ⟨f,fd,a,b,c,d⟩:=h.ex; ⟨f,fd,a.mono e,b,c,d⟩
theorem HasMX.mono (h:HasMX P w K mg base C m j ps dvs sp) (e:j ≤ k):HasMX P w K mg base C m k ps dvs sp:=let ⟨f,fd,ds,a,b,c,d⟩:=h.ex; ⟨f,fd,ds,a.mono e,b,c,d⟩
theorem HasIX.mono (h:HasIX P w K mg base C j ps sp) (e:j ≤ k):HasIX P w K mg base C k ps sp:=let ⟨f,fd,a,b,c⟩:=h.ex; ⟨f,fd,a,b.mono e,c⟩
theorem HereM.hasMX (h:HereM K C m qual st) (b:∀ f fd,Fun K m qual st f fd → Binds K fd ps []) (ok:∀ f fd,Fun K m qual st f fd → FnOk P w K mg base (CXx P w) k f fd ps sp):HasMX P w K mg base C m k ps [] sp :=
  let ⟨f,fd,F,M⟩:=h.ex
  ⟨f,fd,[],ok f fd F,M,b f fd F,.nil⟩
end
section
variable {X:Cx} {k:Nat} {f C:Addr} {fd:FuncData} {ps:List Str} {sp:Sp} {dvs:List V} {ds:List Value} {E:St → XK} {x m:Str} {p pos apos:Pos} {e o:Expr} {es:List Expr} {ta:TE} {t:TA}
theorem ZkE {pins:List (Addr × Obj)} {σ:St} {H:Hp} {s:Shared} {Q:VK} {us:List Value} {vs:List V} (F:FnOk X.prog X.w X.K X.mg X.base (CXx X.prog X.w) k f fd ps sp) (hr:Room k X.A) (hb:Binds X.K fd ps ds) (hd:Vals dvs ds) (hx:Zf5 X E)
    (I:Inv X pins σ H s) (r:Vals vs us) (h:sp (vs ++ dvs) H Q (E σ)):wpAny (model X.prog X.w) X.A (call (.ref f) us) (EP X pins σ Q) X.xe s:=by
  have r2:Vals (vs ++ dvs) (us ++ ds):=r.append hd
  have hl:(us ++ ds).length = ps.length:=by rw [← r2.length]; exact F.len _ _ _ _ h
  refine wpAny_call (codeAny_mono (F.run X.A X.stack s H ⟨us,[]⟩ (us ++ ds) (vs ++ dvs) Q (E σ) hr I.env0 (hb s us I.kIn hl) r2 h) fun r s' hq => ?_)
  cases r with
  | error e => exact hx pins σ H s e s' I hq
  | ok fl =>
    cases fl with
    | ret u => exact I.after hq
    | next => exact False.elim hq
    | brk => exact False.elim hq
    | cont => exact False.elim hq
def ZjY (P:Program) (w:World) (K:PySem.W.Frag) (mg:Str → Option Value) (base:Heap) (m:Str) (k:Nat) (E:St → XK) (ta:TE) (t:TA):TE:=fun σ H Q => ta σ H fun x H1 => ∃ a C dx fs ps dvs sp,x = .ref a ∧ H1 a = some (.ins C dx fs) ∧ Cls K C ∧ HasMX P w K mg base C m k ps dvs sp ∧ fs.lookup m = none ∧
  t σ H1 fun vs H2 => sp (x :: (vs ++ dvs)) H2 Q (E σ)
theorem ZaL {pl:Sem Bool} (he:PE X o ta) (hx:Zf5 X E) (hr:Room k X.A) (ha:PA X (e :: es) t)
    (hst:starEach (e :: es) X.env = (false,eval e X.env) :: starEach es X.env:=by rfl) (hpl:(backTo pos (starEach es X.env)).any (·.1) = false:=by rfl)
    (ht:eval (.Call (.Attribute o m apos) (e :: es) [] pos) X.env = (do
      let ov ← eval o X.env
      standAt apos.atName
      let (f,first) ← holding [ov] (getMethod ov m pl)
      callWith pos f first (backTo pos (starEach (e :: es) X.env)) (backToKw pos (keywordEach [] X.env))):=by rfl) :
    PE X (.Call (.Attribute o m apos) (e :: es) [] pos) (ZjY X.prog X.w X.K X.mg X.base m k E ta t):=by
  intro pins s σ H Q I h
  refine PySem.W.methodCall_KW (pl:=pl) (thn (he pins s σ H _ I h) fun u s1 ⟨x,H1,I1,rx,a,C,dx,fs,ps,dvs,sp,ex,ea,c,hM,l,q⟩ => ?_) ht
  subst ex
  obtain rfl:u = Value.ref a:=rx
  obtain ⟨f,fd,ds,F,hm,hb,hd⟩:=hM.ex
  refine Zeq I1 ea c hm l ?_
  refine PySem.W.callWith_K (first:=[.ref a]) (h₀:=X.base) I.ok.mod.kin hm.kp (thn (ha pos pins s1 σ H1 _ I1 q) fun us s2 ⟨vs,H2,I2,r,q2⟩ => ⟨I2.kIn,?_⟩) hst hpl
  exact ZkE (us:=.ref a :: us) (vs:=.ref a :: vs) F hr hb hd hx I2 (.cons rfl r) q2
end
end L2
namespace L2
open PySem PySem.Spec PyProof.Rows
abbrev bmV:List Value:=[.type "ValueError", .type "Exception", .type "BaseException", .type "object"]
structure ExcC (K:PySem.W.Frag) (mg:Str → Option Value) (x:Str) (C:Addr):Prop where
  cls:XCls K C
  mgx:mg x = some (.ref C)
  ein:PySem.W.excIn K C bmV "ValueError.__new__" = true
theorem ExcC.obj {K:PySem.W.Frag} {mg:Str → Option Value} {x:Str} {C:Addr} (c:ExcC K mg x C) {h:Heap} (X:K.In h):OwnCls x C bmV "ValueError.__new__" mg h:=by
  refine ⟨c.mgx,?_⟩
  have q:=c.ein
  unfold PySem.W.excIn at q
  split at q
  · rename_i dd cd sl ho
    split at q
    · rename_i C' bm k0 k1 k2 k3 n k5 hm hs
      simp only [Bool.and_eq_true,beq_iff_eq,Bool.not_eq_true'] at q
      obtain ⟨⟨⟨⟨⟨rfl,rfl⟩,hdel⟩,ht⟩,hok⟩,hni⟩:=q
      obtain ⟨nm,bs,mro,ns,qn,hd,sn,sub,ab,col,del⟩:=cd
      dsimp only at hm hdel hok hni
      subst hm hdel
      obtain ⟨l⟩:=sl
      have hl:l = [k0,k1,k2,k3,some (.builtin "ValueError.__new__"),k5]:=hs
      subst hl
      exact ⟨bm,ns,nm,qn,bs,hd,sn,sub,ab,col,dd,k0,k1,k2,k3,k5,_,X _ _ ho,.of_isNs (PySem.W.isNs_of_in X hok),PySem.W.nsMap_none_of_in X hok hni,PySem.W.tail_of_in X ht⟩
    · cases q
  · cases q
section
variable {X:Cx} {k:Nat} {C:Addr} {ps:List Str} {sp:Sp} {x m:Str} {p pos np cpos:Pos} {e:Expr} {es:List Expr} {t:TA}
theorem ZcW {E:XK} (c:ExcC X.K X.mg x C) (hR:Zic X E) (hcalm:X.calm = true) (hg:Gl X x) (ha:PA X (e :: es) t) (hl:(e :: es).length ≤ 1000:=by decide)
    (he:starEach (e :: es) X.env = (false,eval e X.env) :: starEach es X.env:=by rfl) (hpl:(backTo cpos (starEach es X.env)).any (·.1) = false:=by rfl) (hdb:(x == ("__debug__" : Str)) = false:=by decide) :
    PS X (.Raise (some (.Call (.Name x np) (e :: es) [] cpos)) none pos) (fun _ σ H => t σ H fun vs H1 => vs.length ≤ 1000 ∧ E (.ref C) none H1):=by
  intro pins s σ H D I h
  obtain ⟨bm,N,nm,q,bs,hdct,sn,sub,ab,col,dd,k0,k1,k2,k3,k5,mN,hC,hN,hni,T⟩:=(c.obj I.mod.kin).obj
  refine wpAny_Raise_call_subT (C:=C) (nm:=nm) (q:=q) (N:=N) (bs:=bs) (bm:=bm) (hdct:=hdct) (sn:=sn) (sub:=sub) (ab:=ab) (col:=col) (dd:=dd) (k0:=k0) (k1:=k1) (k2:=k2) (k3:=k3) (k5:=k5) PySem.F.excBase_ValueError
    (mN:=mN) (T.hasType PySem.F.excBase_ValueError.hasBase) (I.ok.hd hcalm) (by rw [he]; show (false || (backTo cpos (starEach es X.env)).any (·.1)) = false; rw [hpl]; rfl) hni (Zde I hg c.mgx ⟨rfl,?_⟩ hdb)
  have z:=ha cpos pins s σ H _ I h
  rw [he] at z ⊢
  refine Calls.evalArgs_plain (wpAny_mono z (fun us s2 ⟨vs,H2,I2,r,hv,q2⟩ => ⟨rfl,?_,I2.bk _ _ hC,hN.keeps I2.bk,T.keeps I2.bk,fun h' e' hm => hR pins σ H2 s2 h' e' _ _ I2 hm q2⟩) fun _ _ y => y)
  rw [← r.length]
  exact Nat.le_of_lt (ZcT hv)
end
end L2
namespace L2
open PySem PySem.Spec PyProof.Rows
def Zlu (e C:Addr) (dd:Option Addr):HO:=.ext fun h => ∃ oe vs,h.get? e = some oe ∧ oe.cls = .ref C ∧ oe.dict = dd ∧ oe.data = .fields vs
section
variable {X:Cx} {pins:List (Addr × Obj)} {σ σ1:St} {H H1:Hp} {s s1:Shared} {e C:Addr} {dd:Option Addr}
theorem Inv.track (I:Inv X pins σ H s) (I1:Inv X pins σ1 H1 s1) (ne:s1.heap.get? e = none) (hn:H e = none) {oe:Obj} {vs:Array Value} (he:s.heap.get? e = some oe) (hc:oe.cls = .ref C) (hd:oe.dict = dd) (hv:oe.data = .fields vs):Inv X pins σ (upd H e (Zlu e C dd)) s:=by
  have nx:∀ b u,H b = some u → b ≠ e:=fun b u q z => by subst z; rw [hn] at q; cases q
  have nh:∀ b o,s1.heap.get? b = some o → b ≠ e:=fun b o q z => by subst z; rw [ne] at q; cases q
  have ib:=I.base
  refine ⟨I.ok,I.os,I.bare,⟨ib.keep,ib.slot,fun b o q n hx => ?_,ib.there,fun b xs q => ?_,fun b o u q => ?_,fun b ps q => ?_⟩,I.loc,I.cell,?_,fun x c q => ?_,fun p hp => ?_,fun b u q => ?_,I.len⟩
  · obtain ⟨o',z⟩:=I1.base.there b o q hx
    rw [Zat (nh b o' z)]
    exact ib.free b o q n hx
  · have z:=ib.tups b xs q
    rw [Zat (nx b _ z)]; exact z
  · have z:=ib.frzs b o u q
    rw [Zat (nx b _ z)]; exact z
  · obtain ⟨m,z⟩:=ib.tbls b ps q
    exact ⟨m,by rw [Zat (nx b _ z)]; exact z⟩
  · obtain ⟨m,⟨o,es,ep,z,_⟩,_⟩:=I1.loc
    rw [Zat (nh _ o z)]; exact I.free
  · obtain ⟨v,o,z,_⟩:=I1.cell x c q
    rw [Zat (nh _ o z)]; exact I.freeC x c q
  · obtain ⟨a,b,c,d,f⟩:=I.pin p hp
    exact ⟨a,by rw [Zat (nh _ _ (I1.pin p hp).1)]; exact b,c,d,f⟩
  · by_cases hb:b = e
    · subst hb
      rw [Zaf] at q
      cases q
      refine ⟨⟨oe,vs,he,hc,hd,hv⟩,⟨oe,he⟩,fun h1 h2 => ?_⟩
      rintro ⟨o1,v1,a,b,c,d⟩ k
      exact ⟨o1,v1,k _ a,b,c,d⟩
    · rw [Zat hb] at q
      exact (I.hok b u q).stay (fun c v _ z => z) (fun c z => by rw [Zat (nx c _ z)]; exact z) fun c xs z => by rw [Zat (nx c _ z)]; exact z
def Cx.suite (X:Cx) (e:Addr):Cx:={ X with A:=X.A.mark (some (.ref e)),calm:=false,xe:=fun _ _ => False }
theorem Inv.suite (I:Inv X pins σ H s) (e:Addr):Inv (X.suite e) pins σ H s :=
  ⟨⟨I.ok.mod,I.ok.kind,I.ok.glob,I.ok.blt,I.ok.above,I.ok.inj,I.ok.has,I.ok.cab,(fun z => nomatch z),I.ok.frames,I.ok.stk,I.ok.exf,I.ok.bs,I.ok.bsz,I.ok.noex,I.ok.exfs,I.ok.funs,I.ok.frf⟩,I.os,I.bare,I.base,I.loc,I.cell,I.free,I.freeC,I.pin,I.hok,I.len⟩
theorem Inv.unsuite (ok:X.Ok) (I:Inv (X.suite e) pins σ H s):Inv X pins σ H s:=⟨ok,I.os,I.bare,I.base,I.loc,I.cell,I.free,I.freeC,I.pin,I.hok,I.len⟩
abbrev Cx.tryB (X:Cx) (pn:List (Addr × Obj)) (xe:Value → Shared → Prop):Cx:={ X with pn:=pn,xe:=xe }
theorem Inv.tryB (I:Inv X pins σ H s) (xe:Value → Shared → Prop):Inv (X.tryB (X.pn ++ pins) xe) [] σ H s :=
  ⟨⟨I.ok.mod,I.ok.kind,I.ok.glob,I.ok.blt,I.ok.above,I.ok.inj,I.ok.has,I.ok.cab,I.ok.hd,I.ok.frames,I.ok.stk,I.ok.exf,I.ok.bs,I.ok.bsz,I.ok.noex,I.ok.exfs,I.ok.funs,I.ok.frf⟩,I.os,I.bare,I.base,I.loc,I.cell,I.free,I.freeC,fun p hp => I.pin p (by rw [List.append_nil] at hp; exact hp),I.hok,I.len⟩
theorem Inv.untryB {xe:Value → Shared → Prop} {pins':List (Addr × Obj)} (ok:X.Ok) (I:Inv (X.tryB (X.pn ++ pins) xe) pins' σ H s):Inv X pins σ H s :=
  ⟨ok,I.os,I.bare,I.base,I.loc,I.cell,I.free,I.freeC,fun p hp => I.pin p (List.mem_append_left _ hp),I.hok,I.len⟩
theorem Inv.drop {i:Nat} {n:Str} {h':Heap} {v:Option Value} {m:Str → Option Value} {t':Nat} (I:Inv X pins σ H s) (hN:X.N.Nodup) (hi:X.N[i]? = some n) (hm:s.heap.Ns X.env.locals m)
    (hl:∀ (j:Nat) (x:Str) (u:V),X.N[j]? = some x → σ[j]? = some (some u) → Vis X.env.scope x → ∃ z,RelV u z ∧ Zmx X.env s.heap m x z)
    (hn:h'.Ns X.env.locals (fun x => if x = n then v else m x)) (sb:Heap.SameBut X.env.locals s.heap h'):Inv X pins (σ.set i none) H { s with heap:=h',toks:=t' }:=by
  have keep:∀ b o,b ≠ X.env.locals → s.heap.get? b = some o → h'.get? b = some o:=fun b o hb q => sb.extBut b o hb q
  have ne0:∀ b o,X.s₀.heap.get? b = some o → b ≠ X.env.locals:=fun b o q z => by
    subst z
    exact absurd (Nat.lt_of_lt_of_le (Heap.lt_size q) I.ok.above) (Nat.lt_irrefl _)
  have nt:∀ b u,H b = some u → b ≠ X.env.locals:=fun b u q z => by subst z; rw [I.free] at q; cases q
  have ib:=I.base
  have hσ:i < σ.length:=by rw [I.len]; exact (List.getElem?_eq_some_iff.mp hi).1
  refine ⟨I.ok,I.os,I.bare,⟨fun b o q a c d => keep b o (ne0 b o q) (ib.keep b o q a c d),fun b o q a c d => ?_,ib.free,fun b o q d => ?_,ib.tups,ib.frzs,ib.tbls⟩,⟨_,hn,fun j x u a b c => ?_⟩,fun x c q => ?_,I.free,I.freeC,fun p hp => ?_,fun b u q => ?_,?_⟩
  · obtain ⟨sl,z⟩:=ib.slot b o q a c d
    exact ⟨sl,keep b _ (ne0 b o q) z⟩
  · obtain ⟨o',z⟩:=ib.there b o q d
    exact ⟨o',keep b o' (ne0 b o q) z⟩
  · have hji:j ≠ i:=fun z => by
      subst z
      rw [List.getElem?_set_self hσ] at b
      cases b
    rw [List.getElem?_set_ne (Ne.symm hji)] at b
    obtain ⟨z,r,lk⟩:=hl j x u a b c
    have hxn:x ≠ n:=fun z => by
      subst z
      exact hji ((List.getElem?_inj (List.getElem?_eq_some_iff.mp a).1 hN).mp (a.trans hi.symm))
    refine ⟨z,r,?_⟩
    rcases lk with ⟨k1,k2⟩ | ⟨k1,cc,k2,oc,k3,k4⟩
    · exact .inl ⟨k1,by show (if x = n then v else m x) = some z; rw [if_neg hxn]; exact k2⟩
    · exact .inr ⟨k1,cc,k2,oc,keep _ _ (I.cne x cc k2) k3,k4⟩
  · obtain ⟨v0,oc,k3,k4⟩:=I.cell x c q
    exact ⟨v0,oc,keep _ _ (I.cne x c q) k3,k4⟩
  · obtain ⟨a,b,c,d,f⟩:=I.pin p hp
    exact ⟨keep _ _ c a,b,c,d,f⟩
  · exact (I.hok b u q).stay (fun c w hc z => keep c w (by rcases hc with rfl | hc; exact nt _ _ q; exact nt _ _ hc) z) (fun _ z => z) fun _ _ z => z
  · rw [List.length_set]; exact I.len
theorem Zf6 {prog:Program} {w:World} {A:Around} {E:Value → Shared → Prop} {K:PySem.W.Frag} {CE:Addr} {Q:Bool → Shared → Prop} {oe:Obj} (KX:K.In s.heap) (ht:PySem.W.typeIn K (.ref CE) = some (.type "type")) (hb:PySem.W.mroIn K CE (.type "BaseException") = some true)
    (hcl:(PySem.W.clsIn K CE).isSome = true) (hm:PySem.W.mroIn K C (.ref CE) = some true) (he:s.heap.get? e = some oe) (hc:oe.cls = .ref C) (h:Q true s):wpAny (model prog w) A (excMatches (.ref e) (.ref CE)) Q E s:=by
  obtain ⟨hh,g,d,tk,os⟩:=s
  have L1:=PySem.W.looks_typeIn (M:=model prog w) KX ht
  have L2:=PySem.W.looks_mroIn (M:=model prog w) KX hb
  have L3:=PySem.W.looks_mroIn (M:=model prog w) KX hm
  have L0:PySem.W.Looks (model prog w) hh (typeOf (.ref e)) (.ref C):=hc ▸ (PySem.W.Looks.ld he).andThen .now
  have f:=tc_notTuple
  have L4:PySem.W.Looks (model prog w) hh (isInstance (.ref CE) (.type "tuple")) false:=L1.andThen (PySem.W.Looks.of_pure f)
  have L5:PySem.W.Looks (model prog w) hh (isType (.ref CE)) true:=by
    obtain ⟨cd,z⟩:=Option.isSome_iff_exists.mp hcl
    unfold PySem.W.clsIn at z
    split at z
    · rename_i c' d' cd' sl' ho
      intro A' Q' E' s' k q
      unfold isType loadHead
      exact wpAny_bind (wpAny_loadPart (k _ _ (KX _ _ ho)) (wpAny_pure q))
    · cases z
  unfold excMatches
  refine wpAny_bind (m:=isInstance (.ref CE) (.type "tuple")) (L4.at ?_)
  refine wpAny_bind (m:=(pure [Value.ref CE]:Sem (List Value))) (wpAny_pure ?_)
  refine wpAny_bind ?_
  rw [List.forIn_cons]
  refine wpAny_bind (wpAny_bind (m:=isExcClass (.ref CE)) ?_)
  unfold isExcClass
  refine wpAny_bind (L5.at (L2.at ?_))
  refine wpAny_pure (wpAny_pure (a:=PUnit.unit) ?_)
  refine wpAny_bind (L0.at (wpAny_bind ?_))
  rw [List.forIn_cons]
  refine wpAny_bind (wpAny_bind (L3.at ?_))
  refine wpAny_pure (wpAny_pure (wpAny_pure h))
def ZjZ (K:PySem.W.Frag) (CE:Addr) (i:Nat) (ts:Addr → TS) (D:Ends):St → XK:=fun σ1 cls dd H1 => ∃ C,cls = .ref C ∧ PySem.W.mroIn K C (.ref CE) = some true ∧
  ∀ e,H1 e = none → ts e { nx:=fun σ2 H2 => D.nx (σ2.set i none) H2,rt:=fun _ _ => False } (σ1.set i (some (.ref e))) (upd H1 e (Zlu e C dd))
def Zm5 (K:PySem.W.Frag) (CE:Addr) (i:Nat) (tb:(St → XK) → List (Addr × Obj) → (Value → Shared → Prop) → TS) (ts:Addr → TS):TS:=fun D σ H => ∀ pn xe,tb (ZjZ K CE i ts D) pn xe D σ H
structure CatC (K:PySem.W.Frag) (mg:Str → Option Value) (x:Str) (CE:Addr):Prop where
  mgx:mg x = some (.ref CE)
  ty:PySem.W.typeIn K (.ref CE) = some (.type "type")
  be:PySem.W.mroIn K CE (.type "BaseException") = some true
  cl:(PySem.W.clsIn K CE).isSome = true
theorem Zid {body:List Stmt} {b₀:Stmt} {suite:List Stmt} {cx n:Str} {np hpos pos:Pos} {i:Nat} {CE:Addr} {tb:(St → XK) → List (Addr × Obj) → (Value → Shared → Prop) → TS} {ts:Addr → TS} (cE:CatC X.K X.mg cx CE) (hN:X.N.Nodup) (hi:X.N[i]? = some n) (hl:X.env.scope.names.lookup n = some .local) (hg:Gl X cx)
    (hb:∀ (E:St → XK) (pn:List (Addr × Obj)) (xe:Value → Shared → Prop),Zf5 (X.tryB pn xe) E → PSs (X.tryB pn xe) body (tb E pn xe)) (hs:∀ e,PSs (X.suite e) (b₀ :: suite) (ts e))
    (hstk:X.stack = X.env :: X.outer:=by rfl) (hf:X.env.frame = some X.env.locals:=by rfl) (hdb:(cx == ("__debug__" : Str)) = false:=by decide) :
    PS X (.Try body [.ExceptHandler (some (.Name cx np)) (some n) (b₀ :: suite) hpos] [] [] pos) (Zm5 X.K CE i tb ts):=by
  intro pins s σ H D I h
  let EE:=ZjZ X.K CE i ts D
  let XE:Value → Shared → Prop:=fun ev s' => ∃ σ1 H1 s1,Inv X pins σ1 H1 s1 ∧ CXx X.prog X.w X.stack H1 s1 (EE σ1) ev s'
  have pass:Zf5 (X.tryB (X.pn ++ pins) XE) EE:=fun pins' σ1 H1 s1 ev s' I' h' => ⟨σ1,H1,s1,I'.untryB I.ok,h'⟩
  have back:∀ f s',SP (X.tryB (X.pn ++ pins) XE) [] D f s' → SP X pins D f s':=fun f s' q => by
    cases f with
    | next => obtain ⟨σ',H',J,q⟩:=q; exact ⟨σ',H',J.untryB I.ok,q⟩
    | brk => obtain ⟨σ',H',J,q⟩:=q; exact ⟨σ',H',J.untryB I.ok,q⟩
    | cont => obtain ⟨σ',H',J,q⟩:=q; exact ⟨σ',H',J.untryB I.ok,q⟩
    | ret u => obtain ⟨v,σ',H',J,r,q⟩:=q; exact ⟨v,σ',H',J.untryB I.ok,r,q⟩
  refine wpAny_Try_except (wpAny_mono (hb EE _ XE pass [] s σ H D (I.tryB XE) (h _ _)) (fun f s1 q => ?_) fun ev s2 hx => ?_)
  · have q':=back f s1 q
    cases f with
    | next => exact wpAny_execs_nil q'
    | brk => exact q'
    | cont => exact q'
    | ret u => exact q'
  obtain ⟨σ1,H1,s1,I1,e,t,cls,dd,H2,B,rfl,os,bare,U,a,in1,in2,C,rfl,hm,k⟩:=hx
  have hfr:=I.ok.frames
  rw [hstk] at hfr
  have a':Air X.prog X.w B (X.env :: X.outer) H2 s2.heap e t (.ref C) dd .none:=by rw [← hstk]; exact a
  refine a'.note hfr hf fun h4 a4 u4 => ?_
  refine Air.off (s:={ s2 with heap:=h4 }) a4 fun h5 a5 u5 => ?_
  have U5:=Zf4 U a.fr (u4.trans u5) a5.st in1 in2
  have I5:Inv X pins σ1 H2 { s2 with heap:=h5 }:=I1.call' (ch:=[]) os U5 a5.hok bare fun b z => absurd z (by simp)
  refine wpAny_handleBy_cons (codeAny_handlers_test (Zde (X:=X.suite e) (I5.suite e) hg cE.mgx ?_ hdb)) (by intro q; cases q)
  obtain ⟨oe,vs,T,oT,tvs,he5,hc5,_⟩:=id a5.tr
  refine Zf6 (s:={ s2 with heap:=h5 }) I5.kIn cE.ty cE.be cE.cl hm he5 hc5 ?_
  refine codeAny_handlers_suite_as (Air.off (s:={ s2 with heap:=h5 }) a5 fun h6 a6 u6 => ?_)
  have U6:=Zf4 U a.fr ((u4.trans u5).trans u6) a6.st in1 in2
  have I6:Inv X pins σ1 H2 { s2 with heap:=h6 }:=I1.call' (ch:=[]) os U6 a6.hok bare fun b z => absurd z (by simp)
  obtain ⟨oe6,vs6,T6,oT6,tvs6,he6,hc6,hd6,hv6,_⟩:=id a6.tr
  have ne1:s1.heap.get? e = none:=by
    cases q:s1.heap.get? e with
    | none => rfl
    | some o =>
      by_cases hb:e ∈ frs X.stack
      · obtain ⟨_,o',z,nf⟩:=a6.fr.mem (by rw [hstk] at hb; exact hb)
        rw [he6] at z; cases z; exact absurd hv6 (nf _)
      · obtain ⟨o',z⟩:=in2 e o q hb
        rw [a.nb] at z; cases z
  have I7:=I6.track I1 ne1 a6.free he6 hc6 hd6 hv6
  refine Zcu (X:=X) (v:=.ref e) I7 hN hi (.inl hl) rfl (fun s8 I8 => ?_) (.inr hl)
  refine wpAny_mono (hs e pins s8 _ _ _ (I8.suite e) (k e a6.free)) (fun f s9 q => ?_) fun _ _ z => False.elim z
  cases f with
  | brk => obtain ⟨_,_,_,z⟩:=q; exact False.elim z
  | cont => obtain ⟨_,_,_,z⟩:=q; exact False.elim z
  | ret u => obtain ⟨_,_,_,_,_,z⟩:=q; exact False.elim z
  | next =>
    obtain ⟨σ9,H9,J,q⟩:=q
    have I9:=J.unsuite I.ok
    obtain ⟨m,hn,lk⟩:=id I9.loc
    refine wpAny_nameGoes_keeps hl hn (by rw [I.ok.kind]; rfl) fun h' v hn' sb => ?_
    exact ⟨_,_,I9.drop hN hi hn lk hn' sb,q⟩
end
end L2
namespace L2
open PySem PySem.Spec PyProof.Rows
inductive TyX (K:PySem.W.Frag) (H:Hp):V → Value → Prop where
  | of {x:V} {t:Value} (h:TyOf K H x t):TyX K H x t
  | exc {e C:Addr} (h:H e = some (Zlu e C none)) (c:XCls K C):TyX K H (.ref e) (.ref C)
inductive AskC (K:PySem.W.Frag) (H:Hp) (t:Value):V → Bool → Prop where
  | ty {T:String} {b:Bool} (h:PySem.W.kitOne K t (.type T) = some b):AskC K H t (.ty T) b
  | ref {C:Addr} {b:Bool} (h:PySem.W.kitOne K t (.ref C) = some b):AskC K H t (.ref C) b
  | tup {tp:Addr} {cs:List Addr} {b:Bool} (h:H tp = some (.tup (cs.map V.ref))) (q:PySem.W.kitAny K t (cs.map Value.ref) = some b):AskC K H t (.ref tp) b
theorem ZfC:∀ {cs:List Addr} {us:List Value},Vals (cs.map V.ref) us → us = cs.map Value.ref
  | [],_,.nil => rfl
  | _ :: _,_,.cons r t => by cases (show _ = Value.ref _ from r); rw [ZfC t]; rfl
section
variable {X:Cx}
theorem Zau:CallR X (.builtin "isinstance") (fun xs H Q => ∃ x c t b,xs = [x,c] ∧ TyX X.K H x t ∧ AskC X.K H t c b ∧ Q (.bl b) H):=by
  intro pins s σ H xs us Q I r h
  obtain ⟨x,c,t,b,rfl,ty,ask,q⟩:=h
  obtain ⟨u,w',rfl,r1,r2⟩:=ZhQ r
  have fin:∀ tk,EP X pins σ Q (.bool b) { s with toks:=tk }:=fun tk => ⟨.bl b,H,I.tok _,rfl,q⟩
  obtain ⟨G,Z,g,hb⟩:∃ G:Heap → Prop,PySem.W.KitX X.K u t G ∧ G s.heap ∧ u ≠ .builtin "__main__.__loader__#opaque" := by
    cases ty with
    | exc he c =>
      rename_i e C
      cases (show u = Value.ref e from r1)
      obtain ⟨⟨oe,vs,a1,a2,a3,a4⟩,_,_⟩:=(show ObjOk X.prog X.w H s.heap e (Zlu e C none) from I.hok e _ he)
      refine ⟨_,Zjj c,⟨oe,none,a1,a2,?_,?_⟩,fun z => nomatch z⟩
      · unfold PySem.W.notCls; rw [a4]
      · rw [a3]; trivial
    | of ty =>
      cases ty with
      | non => cases (show u = Value.none from r1); exact ⟨_,PySem.W.kitx_none,True.intro,fun z => nomatch z⟩
      | bl y => cases (show u = Value.bool y from r1); exact ⟨_,PySem.W.kitx_bool,True.intro,fun z => nomatch z⟩
      | int i => obtain ⟨t,q⟩:=(show ∃ t,u = Value.int i t from r1); cases q; exact ⟨_,PySem.W.kitx_int,True.intro,fun z => nomatch z⟩
      | str y => obtain ⟨t,q⟩:=(show ∃ t,u = Value.str y t from r1); cases q; exact ⟨_,PySem.W.kitx_str,True.intro,fun z => nomatch z⟩
      | flt y => obtain ⟨t,q⟩:=(show ∃ t,u = Value.float y t from r1); cases q; exact ⟨_,PySem.W.kitx_float,True.intro,fun z => nomatch z⟩
      | @lst a xs ea =>
        cases (show u = Value.ref a from r1)
        obtain ⟨_,_,n,_,h1⟩:=(show ObjOk X.prog X.w H s.heap a (.lst xs) from I.hok a _ ea)
        exact ⟨_,PySem.W.kitx_list,⟨_,h1,rfl⟩,fun z => nomatch z⟩
      | @frz a ob xs ea =>
        cases (show u = Value.ref a from r1)
        obtain ⟨_,_,_,n,_,h1⟩:=(show ObjOk X.prog X.w H s.heap a (.frz ob (.lst xs)) from I.hok a _ ea)
        exact ⟨_,PySem.W.kitx_list,⟨_,h1,rfl⟩,fun z => nomatch z⟩
      | @tup a xs ea =>
        cases (show u = Value.ref a from r1)
        obtain ⟨_,_,_,p⟩:=(show ObjOk X.prog X.w H s.heap a (.tup xs) from I.hok a _ ea)
        obtain ⟨o,h1,h2,_⟩:=p
        exact ⟨_,PySem.W.kitx_tuple,⟨o,h1,h2⟩,fun z => nomatch z⟩
      | @dK a kvs ea =>
        cases (show u = Value.ref a from r1)
        obtain ⟨_,_,vs,_,p⟩:=(show ObjOk X.prog X.w H s.heap a (.dK kvs) from I.hok a _ ea)
        obtain ⟨o,es,ep,h1,h2,_⟩:=p
        exact ⟨_,PySem.W.kitx_dict,⟨o,h1,h2.1⟩,fun z => nomatch z⟩
      | @dT a kvs ea =>
        cases (show u = Value.ref a from r1)
        obtain ⟨_,_,xs,_,o,es,ep,h1,h2,_⟩:=(show ObjOk X.prog X.w H s.heap a (.dT kvs) from I.hok a _ ea)
        exact ⟨_,PySem.W.kitx_dict,⟨o,h1,h2.1⟩,fun z => nomatch z⟩
      | @ins a C dx fs ea cl ha hn htk hm =>
        cases (show u = Value.ref a from r1)
        obtain ⟨mA,O,_⟩:=ZdJ I.hok ea
        obtain ⟨od,J,_⟩:=O.look
        exact ⟨_,PySem.W.kitx_own (cl.get _) cl.hd ha hn htk hm,J,fun z => nomatch z⟩
  cases ask with
  | ty k => cases (show w' = Value.type _ from r2); exact PySem.W.kia_one Z I.kIn g k hb fin
  | ref k => cases (show w' = Value.ref _ from r2); exact PySem.W.kia_one Z I.kIn g k hb fin
  | @tup tp cs b ht k =>
    cases (show w' = Value.ref tp from r2)
    obtain ⟨_,its,rv,o,h1,h2,n,h3⟩:=(show ObjOk X.prog X.w H s.heap tp (.tup (cs.map V.ref)) from I.hok tp _ ht)
    obtain ⟨oc,od,odt,osl⟩:=o
    dsimp only at h2 h3
    subst h2 h3
    exact PySem.W.kia_tup Z I.kIn g h1 (by rw [ZfC rv]; exact k) hb fin
end
theorem Zie {K:PySem.W.Frag} {C D:Addr} {b:Bool} (hc:(PySem.W.clsIn K D).isSome = true) (ht:PySem.W.typeIn K (.ref D) = some (.type "type")) (hm:PySem.W.mroIn K C (.ref D) = some b) (hne:C ≠ D):PySem.W.kitOne K (.ref C) (.ref D) = some b:=by
  unfold PySem.W.kitOne PySem.W.kitCls
  rw [if_neg (fun z => hne (Value.ref.inj (beq_iff_eq.mp z)))]
  show (if ((PySem.W.clsIn K D).isSome && PySem.W.typeIn K (.ref D) == some (.type "type")) = true then PySem.W.subIn K (.ref C) (.ref D) else none) = some b
  rw [hc,ht]
  exact hm
theorem ZgM {K:PySem.W.Frag} {C:Addr}:PySem.W.kitOne K (.ref C) (.ref C) = some true:=by
  unfold PySem.W.kitOne
  rw [if_pos (beq_iff_eq.mpr rfl)]
theorem ZkF {K:PySem.W.Frag} {C:Addr} {T:String} {b:Bool} (h1:PySem.W.kitMeta T = true) (hm:PySem.W.mroIn K C (.type T) = some b):PySem.W.kitOne K (.ref C) (.type T) = some b:=by
  unfold PySem.W.kitOne PySem.W.kitCls
  rw [if_neg (fun z => nomatch (beq_iff_eq.mp z:Value.ref C = Value.type T))]
  show (if PySem.W.kitMeta T = true then PySem.W.subIn K (.ref C) (.type T) else none) = some b
  rw [if_pos h1]
  exact hm
theorem Zmg (K:PySem.W.Frag) {C:Addr} (hm:PySem.W.mroIn K C (.type "ValueError") = some true):PySem.W.kitOne K (.ref C) (.type "ValueError") = some true:=ZkF (by decide +kernel) hm
end L2
namespace L2
open PySem PySem.Spec PyProof.Rows
structure FunD (K:PySem.W.Frag) (x qual:Str) (st:Stmt) (f:Addr) (fd:FuncData) (T:Addr) (items:Array Value):Prop where
  ex:∃ (oc:Value) (od:Option Addr) (kV doc pm:Value) (an:Option Addr) (cdv ct:Value) (osl:Array (Option Value)),
    fd = PySem.W.fnOf x qual (ZbP st) (Za5 st) (Zag st) (.ref T) kV doc pm an cdv ct ∧ K.lookup f = some ⟨oc,od,.func fd,osl⟩ ∧ PySem.W.codeIn K cdv qual = true
  tp:∃ (tc:Value) (td:Option Addr) (n:Nat) (tsl:Array (Option Value)),K.lookup T = some ⟨tc,td,.seq items n,tsl⟩
  kp:PySem.W.keepIn K (.ref f) = true
section
variable {P:Program} {w:World} {K:PySem.W.Frag} {mg:Str → Option Value} {base:Heap} {x qual m:Str} {st:Stmt} {f C T:Addr} {fd:FuncData} {items:Array Value} {N ps:List Str} {k:Nat} {sp:Sp} {ds:List Value} {dvs:List V}
theorem FunD.ok (F:FunD K x qual st f fd T items) (S:FnScope N ps (Zag st)) (len:∀ vs H Q E,sp vs H Q E → vs.length = ps.length)
    (hbody:∀ (cdv:Value) (A:Around) (outer:List Env) (s:Shared) (H:Hp) (vs:List V) (Q:VK) (E:XK),Room k (A.deeper (envOfC qual (Zag st) s.heap.objs.size f cdv)) → sp vs H Q E →
      ∃ t,PSs (ZjW CX0 P w K mg base N qual (Zag st) f cdv A outer s H E).nox (Za5 st) t ∧ t { nx:=fun _ H' => Q .non H',rt:=Q } (start N vs) H):FnOk P w K mg base CX0 (k + 1) f fd ps sp:=by
  obtain ⟨oc,od,kV,doc,pm,an,cdv,ct,osl,rfl,lk,hcd⟩:=F.ex
  refine Zje lk hcd S len fun A outer s H vs Q E hr hsp => ?_
  obtain ⟨t,h,q⟩:=hbody cdv A outer s H vs Q E hr hsp
  exact ⟨t,h.nox,q⟩
theorem FunD.okx (F:FunD K x qual st f fd T items) (S:FnScope N ps (Zag st)) (len:∀ vs H Q E,sp vs H Q E → vs.length = ps.length)
    (hbody:∀ (cdv:Value) (A:Around) (outer:List Env) (s:Shared) (H:Hp) (vs:List V) (Q:VK) (E:XK),Room k (A.deeper (envOfC qual (Zag st) s.heap.objs.size f cdv)) → sp vs H Q E →
      ∃ t,PSs (cxX P w K mg base N qual (Zag st) f cdv A outer s H E) (Za5 st) t ∧ t { nx:=fun _ H' => Q .non H',rt:=Q } (start N vs) H):FnOk P w K mg base (CXx P w) (k + 1) f fd ps sp:=by
  obtain ⟨oc,od,kV,doc,pm,an,cdv,ct,osl,rfl,lk,hcd⟩:=F.ex
  exact Zje lk hcd S len fun A outer s H vs Q E hr hsp => hbody cdv A outer s H vs Q E hr hsp
theorem FunD.binds (F:FunD K x qual st f fd T items) (h:∀ (kV doc pm:Value) (an:Option Addr) (cdv ct:Value) (us:List Value),(us ++ ds).length = ps.length →
      ∃ g:Option (Array Value) → Sem (List (Str × Value)),bindArgs (PySem.W.fnOf x qual (ZbP st) (Za5 st) (Zag st) (.ref T) kV doc pm an cdv ct) ⟨us,[]⟩ = seqItems? (.ref T) >>= g ∧ g (some items) = pure (ps.zip (us ++ ds))):Binds K fd ps ds:=by
  obtain ⟨oc,od,kV,doc,pm,an,cdv,ct,osl,rfl,lk,hcd⟩:=F.ex
  obtain ⟨tc,td,n,tsl,lt⟩:=F.tp
  intro s us KX hl
  obtain ⟨g,h1,h2⟩:=h kV doc pm an cdv ct us hl
  exact .of_defaults rfl (KX _ _ lt) rfl h1 h2
structure HereD (K:PySem.W.Frag) (C:Addr) (m qual:Str) (st:Stmt) (items:Array Value):Prop where
  ex:∃ (f:Addr) (fd:FuncData) (T:Addr),FunD K m qual st f fd T items ∧ Meth K C m f
theorem HereD.hasM (h:HereD K C m qual st items) (hv:Vals dvs ds) (b:∀ f fd T,FunD K m qual st f fd T items → Binds K fd ps ds) (ok:∀ f fd T,FunD K m qual st f fd T items → FnOk P w K mg base CX0 k f fd ps sp):HasM P w K mg base C m k ps dvs sp :=
  let ⟨f,fd,T,F,M⟩:=h.ex
  ⟨f,fd,ds,ok f fd T F,M,b f fd T F,hv⟩
theorem HereD.hasMX (h:HereD K C m qual st items) (hv:Vals dvs ds) (b:∀ f fd T,FunD K m qual st f fd T items → Binds K fd ps ds) (ok:∀ f fd T,FunD K m qual st f fd T items → FnOk P w K mg base (CXx P w) k f fd ps sp):HasMX P w K mg base C m k ps dvs sp :=
  let ⟨f,fd,T,F,M⟩:=h.ex
  ⟨f,fd,ds,ok f fd T F,M,b f fd T F,hv⟩
theorem hereD_mk {oc:Value} {od an:Option Addr} {osl:Array (Option Value)} {kV doc pm cdv ct tc:Value} {td:Option Addr} {n:Nat} {tsl:Array (Option Value)} (a:PySem.W.findIn K (.ref C) m = some (some (.ref f))) (i:PySem.W.isFn K (.ref f) = true)
    (l:K.lookup f = some ⟨oc,od,.func (PySem.W.fnOf m qual (ZbP st) (Za5 st) (Zag st) (.ref T) kV doc pm an cdv ct),osl⟩) (lt:K.lookup T = some ⟨tc,td,.seq items n,tsl⟩)
    (c:PySem.W.codeIn K cdv qual = true) (k:PySem.W.keepIn K (.ref f) = true):HereD K C m qual st items:=⟨f,_,T,⟨⟨oc,od,kV,doc,pm,an,cdv,ct,osl,rfl,l,c⟩,⟨tc,td,n,tsl,lt⟩,k⟩,a,i,k⟩
end
theorem Zjl {us:List Value} (h:us.length = 1):∃ a,us = [a]:=match us,h with | [a],_ => ⟨a,rfl⟩
theorem Zdg {us:List Value} (h:us.length = 2):∃ a b,us = [a,b]:=match us,h with | [a,b],_ => ⟨a,b,rfl⟩
theorem Zdv {us:List Value} (h:us.length = 3):∃ a b c,us = [a,b,c]:=match us,h with | [a,b,c],_ => ⟨a,b,c,rfl⟩
theorem Zlv {us:List Value} (h:us.length = 4):∃ a b c d,us = [a,b,c,d]:=match us,h with | [a,b,c,d],_ => ⟨a,b,c,d,rfl⟩
end L2
namespace L2
open PySem PySem.Spec PyProof.Rows
section
variable {X:Cx} {pins:List (Addr × Obj)} {σ:St} {H:Hp} {s:Shared} {h':Heap} {fp:List Addr} {t':Nat}
theorem Inv.multi (I:Inv X pins σ H s) (hf:∀ b ∈ fp,ZhK X pins H b) (k:∀ c o,c ∉ fp → s.heap.get? c = some o → h'.get? c = some o):Inv X pins σ H { s with heap:=h',toks:=t' }:=by
  refine I.call (ch:=fp) ⟨fun b o q n hb hx => k b o hx q,fun b o q n hb hx => ⟨o.slots,k b o hx q⟩,fun b o q n hx => n,fun b o q hx => ⟨o,k b o hx q⟩,fun _ _ q => q,fun _ _ _ q => q,fun b ps q => ⟨#[],by rw [q]; simp⟩⟩ (fun b u q => ?_) I.bare fun b hb => ?_
  · refine (I.hok b u q).stay (fun c v hc z => k c v (fun m => ?_) z) (fun _ z => z) fun _ _ z => z
    rcases hc with rfl | hc
    · rw [(hf c m).1] at q; cases q
    · rw [(hf c m).1] at hc; cases hc
  · obtain ⟨_,a,_,b,c,d⟩:=hf b hb
    exact ⟨b,a,c,d⟩
theorem Inv.multiT {T:Addr} {xs:List V} {its:List Value} (I:Inv X pins σ H s) (hf:∀ b ∈ fp,ZhK X pins H b) (k:∀ c o,c ∉ fp → s.heap.get? c = some o → h'.get? c = some o) (hT:s.heap.objs.size ≤ T) (ht:IsTup h' T its.toArray) (r:Vals xs its) (hz:xs.length ≤ sizeLine) :
    Inv X pins σ (upd H T (.tup xs)) { s with heap:=h',toks:=t' }:=by
  have nT:=I.hok.fresh hT
  have nx:∀ b u,H b = some u → b ≠ T:=fun b u q z => by subst z; rw [nT] at q; cases q
  refine I.call (ch:=fp) ⟨fun b o q n hb hx => k b o hx q,fun b o q n hb hx => ⟨o.slots,k b o hx q⟩,fun b o q n hx => ?_,fun b o q hx => ⟨o,k b o hx q⟩,fun b _ q => by rw [Zat (nx b _ q)]; exact q,fun b _ _ q => by rw [Zat (nx b _ q)]; exact q,fun b ps q => ⟨#[],by rw [Zat (nx b _ q),q]; simp⟩⟩ (fun b u q => ?_) I.bare fun b hb => ?_
  · rw [Zat (Nat.ne_of_lt (Nat.lt_of_lt_of_le (Heap.lt_size q) hT))]; exact n
  · by_cases hb:b = T
    · subst hb
      rw [Zaf] at q
      cases q
      exact ⟨hz,its,r,ht⟩
    · rw [Zat hb] at q
      refine (I.hok b u q).stay (fun c v hc z => k c v (fun m => ?_) z) (fun c z => by rw [Zat (nx c _ z)]; exact z) fun c _ z => by rw [Zat (nx c _ z)]; exact z
      rcases hc with rfl | hc
      · rw [(hf c m).1] at q; cases q
      · rw [(hf c m).1] at hc; cases hc
  · obtain ⟨_,a,_,b,c,d⟩:=hf b hb
    exact ⟨b,a,c,d⟩
end
def Itz (K:PySem.W.Frag) (a b:Addr):It :=
  ⟨fun i H => ∃ xs ys x y,SqL K H a xs ∧ SqL K H b ys ∧ xs[i]? = some x ∧ ys[i]? = some y,
   fun i H v H' => ∃ T,H T = none ∧ v = .ref T ∧ ∃ x y,(∀ xs,SqL K H a xs → xs[i]? = some x) ∧ (∀ ys,SqL K H b ys → ys[i]? = some y) ∧ H' = upd H T (.tup [x,y]),
   fun i H => ∃ xs ys,SqL K H a xs ∧ SqL K H b ys ∧ (xs.length ≤ i ∨ ys.length ≤ i)⟩
theorem Zjm {P:Program} {w:World} {K:PySem.W.Frag} {elts:List Expr} {k0} {pos:Pos} {a b z TI TO i1 i2:Addr} (D:ZipApart z TI TO i1 i2 a b) :
    Turn P w K (.Tuple elts k0 pos) (Itz K a b) [z,TI,TO,i1,i2] z (fun i h => IsZip h z TI TO .none ∧ IsPair h TI (.ref i1) (.ref i2) ∧ (∃ p q,IsPair h TO p q) ∧ h.IsListIter i1 a i ∧ h.IsListIter i2 b i) where
  mem:=by simp
  obj:=fun i h ⟨hz,hTI,⟨p,q,hTO⟩,⟨o1,e1,_,d1⟩,⟨o2,e2,_,d2⟩⟩ c hc => by
    simp only [List.mem_cons,List.not_mem_nil,or_false] at hc
    rcases hc with rfl | rfl | rfl | rfl | rfl
    · exact ⟨_,hz,fun v e => nomatch (show Data.fields _ = Data.cell v from e)⟩
    · exact ⟨_,hTI,fun v e => nomatch (show Data.seq _ _ = Data.cell v from e)⟩
    · exact ⟨_,hTO,fun v e => nomatch (show Data.seq _ _ = Data.cell v from e)⟩
    · exact ⟨o1,e1,fun v e => by rw [d1] at e; cases e⟩
    · exact ⟨o2,e2,fun v e => by rw [d2] at e; cases e⟩
  keep:=fun i h h' ⟨hz,hTI,⟨p,q,hTO⟩,h1,h2⟩ k =>
    ⟨k z (by simp) _ hz,k TI (by simp) _ hTI,⟨p,q,k TO (by simp) _ hTO⟩,h1.at fun o e => k i1 (by simp) o e,h2.at fun o e => k i2 (by simp) o e⟩
  item:=by
    intro X hP hw hK hc i pins s σ H E I hf ⟨hz,hTI,⟨p,q,hTO⟩,h1,h2⟩ hg
    subst hP hw hK
    obtain ⟨xs,ys,x,y,hq1,hq2,hx,hy⟩:=hg
    obtain ⟨its,rv,pl,_⟩:=I.list hq1
    obtain ⟨jts,rw',pl2,_⟩:=I.list hq2
    obtain ⟨u,hu,ru⟩:=rv.get hx
    obtain ⟨v,hv,rw2⟩:=rw'.get hy
    refine wpAny_pyNext_zip_item D hz hTI hTO h1 h2 pl.isList pl2.isList (x:=u) (y:=v) (by simpa using hu) (by simpa using hv) fun h' a1 a2 a3 a4 a5 a6 a7 => ?_
    refine ⟨_,rfl,wpAny_letOwnedTupleGo_zip (s:={ s with heap:=h' }) a1 fun h2' b1 b2 => ?_⟩
    have kz:∀ c o,c ∉ [z,TI,TO,i1,i2] → s.heap.get? c = some o → h2'.get? c = some o:=fun c o hc e => by
      simp only [List.mem_cons,List.not_mem_nil,or_false,not_or] at hc
      obtain ⟨n1,n2,n3,n4,n5⟩:=hc
      exact b2.extBut _ _ n1 (a7 c o n1 n3 n4 n5 e)
    have nTz:s.heap.objs.size ≠ z:=Nat.ne_of_gt (Heap.lt_size hz)
    have fresh:=I.hok.fresh (Nat.le_refl s.heap.objs.size)
    have I2:Inv X pins σ (upd H s.heap.objs.size (.tup [x,y])) { s with heap:=h2' }:=I.multiT (t':=s.toks) (its:=[u,v]) hf kz (Nat.le_refl _) ⟨_,b2.extBut _ _ nTz a5,rfl,_,rfl⟩ (.cons ru (.cons rw2 .nil)) (by show 2 ≤ sizeLine; decide)
    refine ⟨.ref s.heap.objs.size,_,I2,rfl,⟨_,fresh,rfl,x,y,fun xs' e => by rw [I.list_inj e hq1]; exact hx,fun ys' e => by rw [I.list_inj e hq2]; exact hy,rfl⟩,⟨b1,?_,⟨u,v,?_⟩,a3.extBut b2.extBut D.i1z,a4.extBut b2.extBut D.i2z⟩,fun c hc => ?_⟩
    · exact b2.extBut _ _ D.TIz (a7 _ _ D.TIz D.TITO D.TIi1 D.TIi2 hTI)
    · exact b2.extBut _ _ D.TOz a2
    · have lt:c < s.heap.objs.size:=by
        simp only [List.mem_cons,List.not_mem_nil,or_false] at hc
        obtain ⟨_,e1,_⟩:=id h1
        obtain ⟨_,e2,_⟩:=id h2
        rcases hc with rfl | rfl | rfl | rfl | rfl
        · exact Heap.lt_size hz
        · exact Heap.lt_size hTI
        · exact Heap.lt_size hTO
        · exact Heap.lt_size e1
        · exact Heap.lt_size e2
      rw [Zat (Nat.ne_of_lt lt)]
      exact (hf c hc).1
  done:=by
    intro X hP hw hK hc i pins s σ H E I hf ⟨hz,hTI,⟨p,q,hTO⟩,h1,h2⟩ hg
    subst hP hw hK
    obtain ⟨xs,ys,hq1,hq2,hx⟩:=hg
    obtain ⟨its,rv,pl,_⟩:=I.list hq1
    obtain ⟨jts,rw',pl2,_⟩:=I.list hq2
    have l1:=rv.length
    have l2:=rw'.length
    refine wpAny_pyNext_zip_end (I.ok.hd hc) D hz hTI hTO h1 h2 pl.isList pl2.isList ?_ fun h' k => ⟨rfl,I.multi (t':=s.toks) hf fun c o hc e => ?_⟩
    · rcases hx with hx | hx
      · left; simp; omega
      · right; simp; omega
    · simp only [List.mem_cons,List.not_mem_nil,or_false,not_or] at hc
      obtain ⟨n1,n2,n3,n4,n5⟩:=hc
      exact k c o n1 n3 n4 n5 e
  self:=fun _ _ _ _ _ ⟨hz,_⟩ h => wpAny_pyIter_zip hz h
section
variable {X:Cx}
def Zm6 (K:PySem.W.Frag) (ta:TA):TI:=fun σ H R => ta σ H fun vs H1 => ∃ a b,vs = [.ref a,.ref b] ∧ (∃ xs,SqL K H1 a xs) ∧ (∃ ys,SqL K H1 b ys) ∧ R (Itz K a b) H1
theorem Zif {e1 e2:Expr} {elts:List Expr} {k0} {tpos:Pos} {ta:TA} {p pos:Pos} (hg:Gl X "zip") (hm:X.mg "zip" = none) (ha:PA X [e1,e2] ta) (hs:starEach [e1,e2] X.env = [(false,eval e1 X.env),(false,eval e2 X.env)]:=by rfl) (hs2:starEach [e2] X.env = [(false,eval e2 X.env)]:=by rfl) :
    PI X (.Tuple elts k0 tpos) (.Call (.Name "zip" p) [e1,e2] [] pos) (Zm6 X.K ta):=by
  intro pins s σ H R I h
  refine wpAny_Call_Name_kw (Zep I hg hm PyProof.Rows.Boot.«zip» (PyProof.Rows.callWith_type1 (thn (ha pos pins s σ H _ I h) fun us s1 ⟨vs,H1,I1,r1,q1⟩ => ?_) (by rw [hs,hs2]) (by rw [hs2]; rfl)))
  obtain ⟨a,b,e,⟨xs,hq1⟩,⟨ys,hq2⟩,q⟩:=q1
  subst e
  obtain ⟨u,v,rfl,ru,rv⟩:=ZhQ r1
  cases (show u = Value.ref a from ru)
  cases (show v = Value.ref b from rv)
  obtain ⟨its,_,pl,_⟩:=I1.list hq1
  obtain ⟨jts,_,pl2,_⟩:=I1.list hq2
  have la:a < s1.heap.objs.size:=by obtain ⟨o,e,_⟩:=pl.isList; exact Heap.lt_size e
  have lb:b < s1.heap.objs.size:=by obtain ⟨o,e,_⟩:=pl2.isList; exact Heap.lt_size e
  refine call_zip_2 pl.isList pl2.isList fun h' hz hTI hTO h1 h2 hsz k => ?_
  refine wpAny_pyIter_zip (s:={ s1 with heap:=h' }) hz ?_
  refine ⟨_,[s1.heap.objs.size + 4,s1.heap.objs.size + 2,s1.heap.objs.size + 3,s1.heap.objs.size,s1.heap.objs.size + 1],_,_,H1,rfl,I1.kept (t':=s1.toks) k,Zjm (zipApart_new la lb),⟨hz,hTI,⟨_,_,hTO⟩,h1,h2⟩,fun c hc => ?_,q⟩
  have hc':s1.heap.objs.size ≤ c:=by
    simp only [List.mem_cons,List.not_mem_nil,or_false] at hc
    rcases hc with rfl | rfl | rfl | rfl | rfl <;> omega
  exact I1.fpOk hc' (I1.hok.fresh hc')
end
theorem ZkG {K:PySem.W.Frag} {a b:Addr} {xs ys:List V} {g:TG} {tb:TS} {D:Ends} {σ:St} {H:Hp} (Pv:Nat → St → Hp → Prop) (h0:Pv 0 σ H) (hl:∀ i σ H,Pv i σ H → SqL K H a xs ∧ SqL K H b ys)
    (hs:∀ i x y T σ H,xs[i]? = some x → ys[i]? = some y → H T = none → Pv i σ H → g (.ref T) σ (upd H T (.tup [x,y])) fun σ2 H2 => tb { D with nx:=Pv (i + 1),ct:=Pv (i + 1),bk:=D.nx } σ2 H2) (hd:∀ i σ H,i = min xs.length ys.length → Pv i σ H → D.nx σ H) :
    ∃ W:Nat → Nat → St → Hp → Prop,(∃ m,W 0 m σ H) ∧ ∀ i m σ H,W i m σ H →
      ((Itz K a b).stop i H ∧ D.nx σ H) ∨ ((Itz K a b).go i H ∧ ∃ N:St → Hp → Prop,(∀ σ' H',N σ' H' → ∃ m',m' < m ∧ W (i + 1) m' σ' H') ∧ ∀ x H',(Itz K a b).yld i H x H' → g x σ H' fun σ2 H2 => tb { D with nx:=N,ct:=N,bk:=D.nx } σ2 H2):=by
  refine ⟨fun i m σ H => m = min xs.length ys.length - i ∧ i ≤ min xs.length ys.length ∧ Pv i σ H,⟨_,rfl,Nat.zero_le _,h0⟩,?_⟩
  rintro i m σ H ⟨rfl,hi,p⟩
  obtain ⟨q1,q2⟩:=hl i σ H p
  by_cases hlt:i < min xs.length ys.length
  · have l1:i < xs.length:=by omega
    have l2:i < ys.length:=by omega
    refine .inr ⟨⟨xs,ys,xs[i],ys[i],q1,q2,by simp [l1],by simp [l2]⟩,Pv (i + 1),fun σ' H' p' => ⟨min xs.length ys.length - (i + 1),by omega,rfl,hlt,p'⟩,fun x H' y => ?_⟩
    obtain ⟨T,nT,rfl,u,v,e1,e2,rfl⟩:=y
    exact hs i u v T σ H (e1 xs q1) (e2 ys q2) nT p
  · exact .inl ⟨⟨xs,ys,q1,q2,by omega⟩,hd i σ H (by omega) p⟩
section
variable {caps:List (Nat × Str)} {te:TE}
theorem Zmh {x y:V} {cs:List (Option V)}:∀ (i:Nat) v,((none:Option V) :: none :: cs)[i]? = some (some v) → ((some x) :: (some y) :: cs)[i]? = some (some v)
  | 0,v,h => by simp at h
  | 1,v,h => by simp at h
  | i + 2,v,h => by simpa using h
end
end L2
namespace L2
open PySem PySem.Spec PyProof.Rows
def One1 (x y:V):Prop:=x = y ∧ ((∃ i,x = .int i) ∨ ∃ a,x = .ref a)
def EqD (K:PySem.W.Frag) (H:Hp):Nat → V → V → Prop
  | 0,x,y => One1 x y
  | n + 1,x,y => One1 x y ∨ ∃ a b xs ys,x = .ref a ∧ y = .ref b ∧ SqL K H a xs ∧ SqL K H b ys ∧ xs.length = ys.length ∧ ∀ (i:Nat) u v,xs[i]? = some u → ys[i]? = some v → EqD K H n u v
theorem One1.at {x y:V} {v u:Value} {A:Around} {s:Shared} (h:One1 x y) (rx:RelV x v) (ry:RelV y u):SeqAt.EqAt A s v u true:=by
  obtain ⟨rfl,⟨i,rfl⟩ | ⟨a,rfl⟩⟩:=h
  · obtain ⟨t1,rfl⟩:=rx
    obtain ⟨t2,rfl⟩:=ry
    have:=SeqAt.EqAt.int_int (A:=A) (s:=s) i t1 i t2
    simpa using this
  · cases rx
    cases ry
    exact SeqAt.EqAt.same _
theorem Zbh (n:Nat):(List.range n).all (fun _ => true) = true:=by simp
theorem EqD.at {X:Cx} {pins:List (Addr × Obj)} {σ:St} {H:Hp} {s:Shared} (I:Inv X pins σ H s):∀ (n:Nat) (A:Around) (x y:V) (v u:Value),A.units + n < cLine → EqD X.K H n x y → RelV x v → RelV y u → SeqAt.EqAt A s v u true
  | 0,A,x,y,v,u,_,h,rx,ry => One1.at h rx ry
  | n + 1,A,x,y,v,u,hu,h,rx,ry => by
    rcases h with h | ⟨a,b,xs,ys,rfl,rfl,hx,hy,hl,hi⟩
    · exact h.at rx ry
    · cases rx
      cases ry
      by_cases hab:a = b
      · subst hab
        exact SeqAt.EqAt.same _
      obtain ⟨its,r1,p1,_⟩:=I.list hx
      obtain ⟨jts,r2,p2,_⟩:=I.list hy
      have l1:=r1.length
      have l2:=r2.length
      refine SeqAt.EqAt.of_refs hab ?_
      have:=SeqAt.RcAt.lists (A:=A) (e:=fun _ => true) p1.isList p2.isList (by simp; omega) (by omega) (fun j h1 h2 => ?_)
      · rwa [Zbh] at this
      · have j1:j < xs.length:=by simp at h1; omega
        have j2:j < ys.length:=by simp at h2; omega
        obtain ⟨v1,e1,q1⟩:=r1.get (i:=j) (x:=xs[j]) (by simp [j1])
        obtain ⟨v2,e2,q2⟩:=r2.get (i:=j) (x:=ys[j]) (by simp [j2])
        have f1:its.toArray[j] = v1:=by
          have:its[j]? = some its.toArray[j]:=by simp at h1; simp [h1]
          rw [this] at e1; exact Option.some.inj e1
        have f2:jts.toArray[j] = v2:=by
          have:jts[j]? = some jts.toArray[j]:=by simp at h2; simp [h2]
          rw [this] at e2; exact Option.some.inj e2
        rw [f1,f2]
        exact EqD.at I n A.in1 _ _ _ _ (by show A.units + 1 + n < cLine; omega) (hi j _ _ (by simp [j1]) (by simp [j2])) q1 q2
def Bits (n:Nat) (i:Int):Prop:=Builtin.Int.intBits i ≤ n
theorem Zf7 (i:Int):(PySem.W.WData.int i).weight = Builtin.Int.intBits i:=by
  simp only [PySem.W.WData.weight,Builtin.Int.intBits]
theorem Zev:∀ (ns:List Int) (n:Nat),PySem.W.WData.weightAll (ns.map PySem.W.WData.int) ≤ n → ∀ i ∈ ns,Bits n i
  | [],_,_,_,h => nomatch h
  | j :: ns,n,hw,i,h => by
    simp only [List.map_cons,PySem.W.WData.weightAll] at hw
    rcases List.mem_cons.mp h with rfl | h
    · show Builtin.Int.intBits i ≤ n
      rw [← Zf7]; omega
    · exact Zev ns n (by omega) i h
theorem ZfD {l:PySem.W.OpenLaw} {n:Nat} {q:Program} {loose:List Str} {XP:(Str → Option Value) → Heap → Prop} {YP:World → Heap → Prop} {d:DefRec}
    (hn:l.most = some n) (hdf:d.params.defaults = [])
    (call:∀ (w:World) (s₀ s₁:Shared) (mg mb:Str → Option Value) (fa:Addr) (a:Addr) (vs:List Value) (ns:List Int),
      PySem.W.Ground q loose [] XP w s₀ mg mb s₁.heap → YP w s₁.heap → mg d.name = some (.ref fa) →
      s₁.heap.get? a = some { cls:=.type "list", data:=.seq vs.toArray } → IntsAre vs ns → ns.length ≤ n → (∀ i ∈ ns,Bits 1048576 i) → s₁.gens = #[] →
      codeAny (model l.prog w) callerA (.call (.ref fa) ⟨[.ref a],[]⟩) (fun r s' => r = .ok (.ret (.bool true)) ∧ OldK s₁.heap s'.heap ∧ s'.os = s₁.os ∧ AllBare s'.gens) s₁) :
    PySem.W.WalkO q loose XP YP l.row.toRowW d [] (fun f vs => PySem.call f vs):=by
  refine fun w s₀ s₁ mg mb G Y fa o pm cd doc dV kV ho hd hcd hD hmg hg args vals as hpre hlay hrd hwl hlo => ?_
  have hb:∀ (a:Addr) (vs:List Value) (ns:List Int),vals = [Value.ref a] → args = [PySem.W.WData.list (ns.map PySem.W.WData.int)] → ∀ i ∈ ns,Bits 1048576 i:=by
    rintro a vs ns - rfl
    refine Zev ns _ ?_
    have h1:(PySem.W.WData.list (ns.map PySem.W.WData.int)).layable = true:=(PySem.W.layW_cons hlay).1
    unfold PySem.W.WData.layable at h1
    simp only [Bool.and_eq_true,decide_eq_true_eq] at h1
    have:=h1.2
    simp only [PySem.W.WData.weight] at this
    exact this
  obtain rfl:dV = .none:=PySem.W.Dflts.none hD hdf
  obtain rfl:kV = .none:=PySem.W.Dflts.noKw hD
  obtain ⟨a,vs,ns,rfl,rfl,hobj,hints,hlen⟩:=Att.script_of hn hpre hwl
  refine PySem.W.enter_call (codeAny_mono (call w s₀ s₁ mg mb fa a vs ns G Y hmg hobj hints hlen (hb a vs ns rfl rfl) hg) fun r s' hq => ?_)
  obtain ⟨rfl,h2,h3,h4⟩:=hq
  exact ⟨.inl ⟨.bool true,.bool true,[],rfl,fun _ => rfl,.bool true,Att.post_true l _,fun _ => ⟨List.Pairwise.nil,fun _ hm => (nomatch hm)⟩⟩,h2,h3,h4⟩
theorem walk_ofB {l:PySem.W.OpenLaw} {n k:Nat} {q:Program} {loose:List Str} {XP:(Str → Option Value) → Heap → Prop} {YP:World → Heap → Prop} {d:DefRec} {K:Params → PySem.W.Frag} {CX:World → CXT} {sp:World → Sp} {x:Str}
    (hn:l.most = some n) (hn2:n ≤ sizeLine) (hdf:d.params.defaults = []) (hr:Room k callerA)
    (hY:∀ (w:World) (h:Heap),YP w h → (K w.params).In h)
    (F:∀ (w:World) (mg:Str → Option Value) (fa:Addr) (h:Heap),(K w.params).In h → h.Ns mainGlobals mg → mg d.name = some (.ref fa) →
      ∃ fd:FuncData,(∀ (s:Shared) (u:Value),BindsTo s fd ⟨[u],[]⟩ [(x,u)]) ∧
        ∀ base:Heap,(K w.params).In base → base.Ns mainGlobals mg → FnOk l.prog w (K w.params) mg base (CX w) k fa fd [x] (sp w))
    (hsp:∀ (w:World) (H:Hp) (a:Addr) (ns:List Int),ns.length ≤ n → (∀ i ∈ ns,Bits 1048576 i) → ZlX H → SqL (K w.params) H a (ns.map V.int) → sp w [.ref a] H (fun v _ => v = .bl true) fun _ _ _ => False)
    (hCX:∀ (w:World) (H:Hp) (s:Shared) (e:Value) (s':Shared),CX w [] H s (fun _ _ _ => False) e s' → False) :
    PySem.W.WalkO q loose XP YP l.row.toRowW d [] (fun f vs => PySem.call f vs):=by
  refine ZfD hn hdf fun w s₀ s₁ mg mb fa a vs ns G Y hmg hobj hints hlen hbits hg => ?_
  have KX:=hY w _ Y
  obtain ⟨fd,hb,hF⟩:=F w mg fa _ KX G.T.g hmg
  exact ZgG KX G.T.g G.T.b G.T.builtins G.T.nolimit hg hobj hints (Nat.le_trans hlen hn2) hr hF hb (fun H hO hS => hsp w H a ns hlen hbits hO hS) fun H e s' => hCX w H s₁ e s'
theorem Bits.lt {n:Nat} {i:Int} (h:Bits n i):i.natAbs < 2 ^ n:=by
  unfold Bits Builtin.Int.intBits at h
  by_cases h0:i = 0
  · subst h0; exact Nat.pos_of_ne_zero (by simp)
  · have:i.natAbs.log2 + 1 ≤ n:=by simpa [h0] using h
    exact (Nat.log2_lt (by omega)).mp (by omega)
theorem Bits.of {n:Nat} {i:Int} (h:i.natAbs < 2 ^ n):Bits n i:=ZcI h
theorem Bits.cell {n:Nat} {c k:Int} (h:Bits n c) (h0:0 ≤ k) (h1:k < 256):Bits (n + 17) (c * (k + 2) + k * k):=by
  refine Bits.of ?_
  have hc:=h.lt
  have e1:(c * (k + 2)).natAbs ≤ c.natAbs * 258:=by
    rw [Int.natAbs_mul]
    exact Nat.mul_le_mul_left _ (by omega)
  have e2:(k * k).natAbs ≤ 256 * 256:=by
    rw [Int.natAbs_mul]
    exact Nat.mul_le_mul (by omega) (by omega)
  have e3:2 ^ (n + 17) = 2 ^ n * 131072:=by rw [Nat.pow_add]
  have e4:1 ≤ 2 ^ n:=Nat.pos_of_ne_zero (by simp)
  rw [e3]
  generalize 2 ^ n = P at *
  omega
theorem Bits.mono {m n:Nat} {i:Int} (h:Bits m i) (hm:m ≤ n):Bits n i:=Nat.le_trans h hm
theorem Bits.mul {i j:Int} (h:Bits 2097152 i) (h':Bits 2097152 j):IntMulOk i j:=by
  have h1:Builtin.Int.intBits i ≤ 2097152:=h
  have h2:Builtin.Int.intBits j ≤ 2097152:=h'
  have h3:Builtin.Int.intTooBig (Builtin.Int.intBits i + Builtin.Int.intBits j) = false:=by
    unfold Builtin.Int.intTooBig
    rw [bitsLine_eq]
    exact decide_eq_false (by omega)
  unfold IntMulOk
  rw [h3]
  simp
end L2
namespace L2
open PySem PySem.Spec PyProof.Rows
section
variable {X:Cx}
theorem Zjn (K:PySem.W.Frag) (h:X.K = K):IxR X (ZmE K):=by subst h; exact Zaw
structure CxIs (X:Cx) (P:Program) (w:World) (K:PySem.W.Frag) (mg:Str → Option Value) (base:Heap):Prop where
  p:X.prog = P
  w:X.w = w
  k:X.K = K
  m:X.mg = mg
  b:X.base = base
variable {o e:Expr} {es:List Expr} {m:Str} {apos pos:Pos} {ta:TE} {t:TA} {k:Nat} {E:St → XK}
theorem Zig {pl:Sem Bool} {P:Program} {w:World} {K:PySem.W.Frag} {mg:Str → Option Value} {base:Heap} (hX:CxIs X P w K mg base) (he:PE X o ta) (hx:Zf5 X E) (hr:Room k X.A) (ha:PA X (e :: es) t)
    (hst:starEach (e :: es) X.env = (false,eval e X.env) :: starEach es X.env:=by rfl) (hpl:(backTo pos (starEach es X.env)).any (·.1) = false:=by rfl)
    (ht:eval (.Call (.Attribute o m apos) (e :: es) [] pos) X.env = (do
      let ov ← eval o X.env
      standAt apos.atName
      let (f,first) ← holding [ov] (getMethod ov m pl)
      callWith pos f first (backTo pos (starEach (e :: es) X.env)) (backToKw pos (keywordEach [] X.env))):=by rfl) :
    PE X (.Call (.Attribute o m apos) (e :: es) [] pos) (ZjY P w K mg base m k E ta t):=by
  obtain ⟨rfl,rfl,rfl,rfl,rfl⟩:=hX
  exact ZaL he hx hr ha hst hpl ht
theorem ZdO {pl:Sem Bool} {P:Program} {w:World} {K:PySem.W.Frag} {mg:Str → Option Value} {base:Heap} (hX:CxIs X P w K mg base) (he:PE X o ta) (hr:Room k X.A) (ha:PA X (e :: es) t)
    (hst:starEach (e :: es) X.env = (false,eval e X.env) :: starEach es X.env:=by rfl) (hpl:(backTo pos (starEach es X.env)).any (·.1) = false:=by rfl)
    (ht:eval (.Call (.Attribute o m apos) (e :: es) [] pos) X.env = (do
      let ov ← eval o X.env
      standAt apos.atName
      let (f,first) ← holding [ov] (getMethod ov m pl)
      callWith pos f first (backTo pos (starEach (e :: es) X.env)) (backToKw pos (keywordEach [] X.env))):=by rfl) :
    PE X (.Call (.Attribute o m apos) (e :: es) [] pos) (ZjX P w K mg base m k ta t):=by
  obtain ⟨rfl,rfl,rfl,rfl,rfl⟩:=hX
  exact ZaA he hr ha hst hpl ht
end
end L2
namespace L2
open PySem PySem.Spec PyProof.Rows
theorem Zih {X:Cx} {pos:Pos} (K:PySem.W.Frag) (h:X.K = K) {es:List Expr} {k:Nat} {t:TGs} {n:Nat} (hc:X.calm = true) (h1:PGs X es t)
    (hn:(assignEach es X.env).length = n:=by rfl) (hst:(assignEach es X.env).findIdx? (·.1) = none:=by rfl):PG X (.Tuple es k pos) (Zl4 K n t):=by subst h; exact ZjR hc h1 hn hst
theorem ZfE {caps:List (Nat × Str)} {te:TE} {K:PySem.W.Frag} {a b:Addr} {xs ys:List V} {σ:St} {H:Hp} {QL:List V → Hp → Prop} (Pv:Nat → List V → Hp → Prop) (hz:xs.length ≤ 1000) (h0:Pv 0 [] H) (hl:∀ i zs H,Pv i zs H → SqL K H a xs ∧ SqL K H b ys)
    (hs:∀ i x y T zs H,xs[i]? = some x → ys[i]? = some y → zs.length = i → H T = none → Pv i zs H → te (some x :: some y :: caps.map fun p => (σ[p.1]?).join) (upd H T (.tup [x,y])) fun v H' => Pv (i + 1) (zs ++ [v]) H')
    (hd:∀ zs H,zs.length = min xs.length ys.length → Pv (min xs.length ys.length) zs H → QL zs H) :
    Zfv 2 caps (Zl4 K 2 (Zkl (Zdt 0) (Zkl (Zdt 1) ZmA))) te σ (Itz K a b) H QL:=by
  have hz':xs.length < sizeLine:=ZcT hz
  refine ⟨fun i m zs H => m = min xs.length ys.length - i ∧ i ≤ min xs.length ys.length ∧ zs.length = i ∧ Pv i zs H,⟨_,rfl,Nat.zero_le _,rfl,h0⟩,?_⟩
  rintro i m zs H' ⟨rfl,hi,hy,p⟩
  obtain ⟨q1,q2⟩:=hl i zs H' p
  refine ⟨by omega,?_⟩
  by_cases hlt:i < min xs.length ys.length
  · have l1:i < xs.length:=by omega
    have l2:i < ys.length:=by omega
    refine .inr ⟨⟨xs,ys,xs[i],ys[i],q1,q2,by simp [l1],by simp [l2]⟩,by omega,fun v H4 => Pv (i + 1) (zs ++ [v]) H4,fun v H4 p' => ⟨min xs.length ys.length - (i + 1),by omega,rfl,hlt,by rw [List.length_append,hy]; rfl,p'⟩,fun x H2 y => ?_⟩
    obtain ⟨T,nT,rfl,u,v,e1,e2,rfl⟩:=y
    exact ⟨T,[u,v],rfl,SqT.of Zaf,rfl,u,_,rfl,v,_,rfl,rfl,Zmh,hs i u v T zs H' (e1 xs q1) (e2 ys q2) hy nT p⟩
  · have e:i = min xs.length ys.length:=by omega
    subst e
    exact .inl ⟨⟨xs,ys,q1,q2,by omega⟩,hd zs H' hy p⟩
end L2
namespace L2
open PySem PySem.Spec PyProof.Rows
theorem ZkH:10 ^ 1000 < 2 ^ 4000:=by decide +kernel
theorem Zm7 {i j:Int} (h:i.natAbs ≤ 10 ^ 1000) (h':j.natAbs ≤ 10 ^ 1000):IntMulOk i j :=
  .of_bits (Nat.le_trans (ZcI (n:=4000) (Nat.lt_of_le_of_lt h ZkH)) (by decide)) (Nat.le_trans (ZcI (n:=4000) (Nat.lt_of_le_of_lt h' ZkH)) (by decide))
theorem Zjo {j:Int} (h:j.natAbs ≤ 10 ^ 1000):j.natAbs.log2 < 9000:=by
  rcases Nat.eq_zero_or_pos j.natAbs with z | z
  · rw [z]; decide
  · exact Nat.lt_trans ((Nat.log2_lt (Nat.ne_of_gt z)).mpr (Nat.lt_of_le_of_lt h ZkH)) (by decide)
section
variable {X:Cx}
theorem Zdw:OpR X (binaryOp .FloorDiv) (rI (fun _ j => j ≠ 0 ∧ j.natAbs ≤ 10 ^ 1000) fun i j => .int (i.fdiv j)):=opI fun _ _ _ _ _ _ _ hc q => floordiv_int hc.1 q (.inl (PyProof.noPylong_of_log2 (Zjo hc.2)))
theorem Zdq:∀ {ns:List Int} {us:List Value},Vals (ns.map V.int) us → IntsAre us ns
  | [],_,.nil => .nil
  | _ :: _,_,.cons r t => by obtain ⟨k,rfl⟩:=r; exact .cons _ _ (Zdq t)
theorem Zjp (hc:X.calm = true):CallR X (.builtin "sum") (fun xs H Q => ∃ (p:Addr) (ns:List Int),xs = [.ref p] ∧ SqL X.K H p (ns.map V.int) ∧ Q (.int ns.sum) H):=by
  intro pins s σ H xs us Q I r h
  obtain ⟨p,ns,rfl,hq,q⟩:=h
  obtain ⟨u,rfl,rx⟩:=Zhc r
  cases rx
  obtain ⟨its,r',pl,hz⟩:=I.list hq
  have hi:=Zdq r'
  obtain ⟨xs,e⟩:=hi.allInts.items
  have hs:(numsOf its).sum = ns.sum:=by rw [hi.numsOf]
  have e2:its = (intItems xs).toList:=by rw [← e]
  rw [e2,nums_intItems] at hs
  refine sum_intListG (xs:=xs) (I.ok.hd hc) (by rw [← e]; exact pl.isList) fun h' tk t' hk => ?_
  rw [preSum_eq,List.take_of_length_le (by simp)]
  rw [hs]
  exact ⟨.int ns.sum,H,I.kept hk,⟨t',rfl⟩,q⟩
end
end L2
namespace L2
open PySem PySem.Spec PyProof.Rows
structure OneCell (scope:Scope) (x0:Str):Prop where
  one:∀ y ∈ scope.names,y.2 = .cell → y.1 = x0
  lk:scope.names.lookup x0 = some .cell
  cf:∀ n acc,cellsFrom n scope.names acc = (x0,n) :: acc
  pc:∀ h,pushCells h scope.names = h.push { cls:=.type "cell", data:=.cell none }
section
variable {X:Cx} {tg iter elt:Expr} {scope:Scope} {pos:Pos} {wi:TI} {g:TG} {te:TE} {own:List Str} {caps:List (Nat × Str)} {x0:Str}
end
end L2
namespace L2
open PySem PySem.Spec PyProof.Rows
section
variable {X:Cx} {k:Nat} {f C:Addr} {fd:FuncData} {ps:List Str} {sp:Sp} {dvs:List V} {ds:List Value} {E:St → XK} {x:Str} {p pos:Pos} {e:Expr} {es:List Expr} {t:TA}
end
end L2
namespace L2
open PySem PySem.Spec PyProof.Rows
@[irreducible] def PEI (X:Cx) (e:Expr) (t:TE):Prop:=PE X e t
@[irreducible] def PSI (X:Cx) (st:Stmt) (t:TS):Prop:=PS X st t
@[irreducible] def PSsI (X:Cx) (st:List Stmt) (t:TS):Prop:=PSs X st t
section
variable {X:Cx} {st:Stmt} {Zha:List Stmt} {t u:TS} {e:Expr} {te:TE} {pos:Pos}
end
end L2
namespace L2
open PySem PySem.Spec PyProof.Rows
theorem Zew:∀ {bs:List Bool} {us:List Value},Vals (bs.map V.bl) us → us = bs.map Value.bool
  | [],_,.nil => rfl
  | _ :: _,_,.cons r t => by rw [show _ = Value.bool _ from r,Zew t]; rfl
theorem Zii (bs:List Bool):(List.range bs.length).all (fun i => bs.getD i true) = bs.all id:=by
  rw [Bool.eq_iff_iff,List.all_eq_true,List.all_eq_true]
  constructor
  · intro h b hb
    obtain ⟨i,hi,rfl⟩:=List.getElem_of_mem hb
    have:=h i (List.mem_range.mpr hi)
    rwa [List.getD_eq_getElem?_getD,List.getElem?_eq_getElem hi] at this
  · intro h i hi
    have hi:=List.mem_range.mp hi
    rw [List.getD_eq_getElem?_getD,List.getElem?_eq_getElem hi]
    exact h _ (List.getElem_mem hi)
section
variable {X:Cx}
theorem Zjq (hc:X.calm = true):CallR X (.builtin "all") (fun xs H Q => ∃ (p:Addr) (bs:List Bool),xs = [.ref p] ∧ SqL X.K H p (bs.map V.bl) ∧ Q (.bl (bs.all id)) H):=by
  intro pins s σ H xs us Q I r h
  obtain ⟨p,bs,rfl,hq,q⟩:=h
  obtain ⟨u,rfl,rx⟩:=Zhc r
  cases rx
  obtain ⟨its,r',pl,hz⟩:=I.list hq
  obtain rfl:=Zew r'
  have hd:X.A.in1.handled = none:=I.ok.hd hc
  refine call_all_walk (PySem.Flt.iter_list_ pl.isList fun s2 e st lt ne => ?_)
  subst e
  refine ⟨_,_,_,_,_,_,fun i => bs.getD i true,rfl,Walks.list hd _ _ ne _,st,?_,fun h' tk hk => ?_⟩
  · intro i v s' Q' E' hv hq'
    have e:v = .bool (bs.getD i true):=by
      have:(bs.map Value.bool)[i]? = some v:=by simpa using hv
      rw [List.getElem?_map] at this
      cases e:bs[i]? with
      | none => rw [e] at this; cases this
      | some b => rw [e] at this; cases this; rw [List.getD_eq_getElem?_getD,e]; rfl
    rw [e]
    exact wpAny_truthy_bool hq'
  · have e:(bs.map Value.bool).toArray.size = bs.length:=by simp
    rw [e,Zii]
    refine ⟨.bl (bs.all id),H,I.kept fun b o hb => ?_,rfl,q⟩
    refine hk b o ?_ (Heap.get?_push_of_some _ hb)
    intro z
    rw [List.mem_singleton.mp z] at hb
    exact absurd (Heap.lt_size hb) (Nat.lt_irrefl _)
end
def Fl (H:Hp) (x:V) (d:PyData):Prop:=(x = .non ∧ d = .none) ∨ (∃ b,x = .bl b ∧ d = .bool b) ∨ (∃ i,x = .int i ∧ d = .int i) ∨ (∃ y,x = .str y ∧ d = .str y) ∨ (∃ a,x = .ref a ∧ d = .dict [] ∧ H a = some (.dK []))
def Rp (H:Hp):Nat → V → PyData → Prop
  | 0,x,d => Fl H x d
  | n + 1,x,d => Fl H x d ∨ (∃ a xs ds,x = .ref a ∧ d = .list ds ∧ H a = some (.lst xs) ∧ xs.length = ds.length ∧ ∀ (i:Nat) u e,xs[i]? = some u → ds[i]? = some e → Rp H n u e) ∨
      (∃ a xs ds,x = .ref a ∧ d = .tuple ds ∧ H a = some (.tup xs) ∧ xs.length = ds.length ∧ ∀ (i:Nat) u e,xs[i]? = some u → ds[i]? = some e → Rp H n u e)
theorem Fl.same {H H':Hp} {x:V} {d:PyData} (h:Fl H x d) (S:Same H H'):Fl H' x d:=by
  rcases h with h | h | h | h | ⟨a,e1,e2,h⟩
  · exact .inl h
  · exact .inr (.inl h)
  · exact .inr (.inr (.inl h))
  · exact .inr (.inr (.inr (.inl h)))
  · exact .inr (.inr (.inr (.inr ⟨a,e1,e2,S _ _ h⟩)))
theorem Rp.same {H H':Hp} (S:Same H H'):∀ {n:Nat} {x:V} {d:PyData},Rp H n x d → Rp H' n x d
  | 0,_,_,h => Fl.same h S
  | n + 1,x,d,h => by
    rcases h with h | ⟨a,xs,ds,e1,e2,h,l,r⟩ | ⟨a,xs,ds,e1,e2,h,l,r⟩
    · exact .inl (Fl.same h S)
    · exact .inr (.inl ⟨a,xs,ds,e1,e2,S _ _ h,l,fun i u e a b => Rp.same S (r i u e a b)⟩)
    · exact .inr (.inr ⟨a,xs,ds,e1,e2,S _ _ h,l,fun i u e a b => Rp.same S (r i u e a b)⟩)
theorem Rp.up {H:Hp}:∀ {n:Nat} {x:V} {d:PyData},Rp H n x d → Rp H (n + 1) x d
  | 0,_,_,h => .inl h
  | n + 1,x,d,h => by
    rcases h with h | ⟨a,xs,ds,e1,e2,h,l,r⟩ | ⟨a,xs,ds,e1,e2,h,l,r⟩
    · exact .inl h
    · exact .inr (.inl ⟨a,xs,ds,e1,e2,h,l,fun i u e a b => Rp.up (r i u e a b)⟩)
    · exact .inr (.inr ⟨a,xs,ds,e1,e2,h,l,fun i u e a b => Rp.up (r i u e a b)⟩)
theorem Rp.mono {H:Hp} {x:V} {d:PyData} {n m:Nat} (h:Rp H n x d) (l:n ≤ m):Rp H m x d:=by
  induction m with
  | zero => obtain rfl:n = 0:=by omega
            exact h
  | succ m ih =>
    by_cases e:n = m + 1
    · subst e; exact h
    · exact (ih (by omega)).up
section
variable {X:Cx} {pins:List (Addr × Obj)} {σ:St} {H:Hp} {s:Shared}
theorem Zlw (I:Inv X pins σ H s) {a:Addr} (h:H a = some (.dK [])):(a == sysModules) = false ∧ s.heap.DictOf (ZcG X.prog X.w) a []:=by
  obtain ⟨_,z,vs,kv,p⟩:=(show ObjOk X.prog X.w H s.heap a (.dK []) from I.hok a _ h)
  cases kv
  exact ⟨z,p⟩
theorem Zdx {P P':Program} {w w':World} {h:Heap} {a:Addr} (d:h.DictOf (ZcG P w) a []):h.DictOf (ZcG P' w') a []:=by
  obtain ⟨o,es,ep,h1,h2,h3,h4,h5,h6⟩:=d
  refine ⟨o,es,ep,h1,h2,h3,?_,?_,h6⟩
  · have:es.toList = []:=by cases q:es.toList with
      | nil => rfl
      | cons x r => rw [q] at h5; cases h5
    intro e he
    rw [Array.mem_def,this] at he
    cases he
  · cases q:es.toList with
    | nil => exact .nil
    | cons x r => rw [q] at h5; cases h5
theorem Fl.rc {A:Around} {x y:V} {v u:Value} {d:PyData} (I:Inv X pins σ H s) (hu:A.units < cLine) (hx:Fl H x d) (hy:Fl H y d) (rx:RelV x v) (ry:RelV y u):SeqAt.RcAt A s v u true ∧ SeqAt.RcNeAt A s v u false:=by
  rcases hx with ⟨rfl,rfl⟩ | ⟨b,rfl,rfl⟩ | ⟨i,rfl,rfl⟩ | ⟨z,rfl,rfl⟩ | ⟨a,rfl,rfl,ha⟩ <;> rcases hy with ⟨rfl,e⟩ | ⟨b',rfl,e⟩ | ⟨i',rfl,e⟩ | ⟨z',rfl,e⟩ | ⟨a',rfl,e,ha'⟩ <;> cases e
  · cases rx; cases ry; exact ⟨SeqAt.RcAt.none_none,SeqAt.RcNeAt.none_none⟩
  · cases rx; cases ry
    exact ⟨by have:=SeqAt.RcAt.bool_bool (A:=A) (s:=s) b b; simpa using this,by have:=SeqAt.RcNeAt.bool_bool (A:=A) (s:=s) b b; simpa using this⟩
  · obtain ⟨t1,rfl⟩:=rx
    obtain ⟨t2,rfl⟩:=ry
    exact ⟨by have:=SeqAt.RcAt.int_int (A:=A) (s:=s) i t1 i t2; simpa using this,by have:=SeqAt.RcNeAt.int_int (A:=A) (s:=s) i t1 i t2; simpa using this⟩
  · obtain ⟨t1,rfl⟩:=rx
    obtain ⟨t2,rfl⟩:=ry
    exact ⟨by have:=SeqAt.RcAt.str_str (A:=A) (s:=s) z t1 z t2; simpa using this,by have:=SeqAt.RcNeAt.str_str (A:=A) (s:=s) z t1 z t2; simpa using this⟩
  · cases rx; cases ry
    obtain ⟨n1,d1⟩:=Zlw I ha
    obtain ⟨n2,d2⟩:=Zlw I ha'
    refine ⟨fun prog w E Q q => ?_,fun prog w E Q q => ?_⟩
    · exact PySem.W.keq_eq (knd:=ZcG prog w) (r:=true) n1 n2 (Zdx d1) (Zdx d2) hu (fun _ => .nil) q
    · exact PySem.W.keq_ne (knd:=ZcG prog w) (r:=true) n1 n2 (Zdx d1) (Zdx d2) hu (fun _ => .nil) q
theorem Fl.at {A:Around} {x y:V} {v u:Value} {d:PyData} (I:Inv X pins σ H s) (hu:A.units < cLine) (hx:Fl H x d) (hy:Fl H y d) (rx:RelV x v) (ry:RelV y u):SeqAt.EqAt A s v u true:=by
  have rc:=(Fl.rc I hu hx hy rx ry).1
  rcases hx with ⟨rfl,rfl⟩ | ⟨b,rfl,rfl⟩ | ⟨i,rfl,rfl⟩ | ⟨z,rfl,rfl⟩ | ⟨a,rfl,rfl,ha⟩ <;> rcases hy with ⟨rfl,e⟩ | ⟨b',rfl,e⟩ | ⟨i',rfl,e⟩ | ⟨z',rfl,e⟩ | ⟨a',rfl,e,ha'⟩ <;> cases e
  · cases rx; cases ry; exact SeqAt.EqAt.same _
  · cases rx; cases ry; exact SeqAt.EqAt.same _
  · obtain ⟨t1,rfl⟩:=rx
    obtain ⟨t2,rfl⟩:=ry
    have:=SeqAt.EqAt.int_int (A:=A) (s:=s) i t1 i t2
    simpa using this
  · obtain ⟨t1,rfl⟩:=rx
    obtain ⟨t2,rfl⟩:=ry
    have:=SeqAt.EqAt.str_str (A:=A) (s:=s) z t1 z t2
    simpa using this
  · cases rx; cases ry
    by_cases hab:a = a'
    · subst hab; exact SeqAt.EqAt.same _
    · exact SeqAt.EqAt.of_refs hab rc
theorem Vals.at2 {xs:List V} {its:List Value} (r:Vals xs its) {j:Nat} (h:j < its.toArray.size):∃ x,xs[j]? = some x ∧ RelV x its.toArray[j]:=by
  have l:=r.length
  have j1:j < xs.length:=by simp at h; omega
  obtain ⟨v1,e1,q1⟩:=r.get (i:=j) (x:=xs[j]) (by simp [j1])
  have f1:its.toArray[j] = v1:=by
    have:its[j]? = some its.toArray[j]:=by simp at h; simp [h]
    rw [this] at e1; exact Option.some.inj e1
  exact ⟨xs[j],by simp [j1],by rw [f1]; exact q1⟩
theorem Zci {α β:Type} {xs:List α} {ds:List β} {j:Nat} {x:α} (h:xs[j]? = some x) (l:xs.length = ds.length):∃ d,ds[j]? = some d:=by
  have:=(List.getElem?_eq_some_iff.mp h).1
  exact ⟨ds[j]'(by omega),List.getElem?_eq_getElem (by omega)⟩
theorem Rp.both (I:Inv X pins σ H s):∀ (n:Nat) (A:Around) (x y:V) (v u:Value) (d:PyData),A.units + n < cLine → Rp H n x d → Rp H n y d → RelV x v → RelV y u → SeqAt.EqAt A s v u true ∧ SeqAt.RcAt A s v u true ∧ SeqAt.RcNeAt A s v u false
  | 0,A,x,y,v,u,d,hu,hx,hy,rx,ry => ⟨Fl.at I hu hx hy rx ry,Fl.rc I hu hx hy rx ry⟩
  | n + 1,A,x,y,v,u,d,hu,hx,hy,rx,ry => by
    have hu0:A.units < cLine:=by omega
    rcases hx with hx | ⟨a,xs,ds,rfl,rfl,ha,hl,hi⟩ | ⟨a,xs,ds,rfl,rfl,ha,hl,hi⟩
    · have hy':Fl H y d:=by
        rcases hy with hy | ⟨b,ys,es,rfl,rfl,hb,hm,hj⟩ | ⟨b,ys,es,rfl,rfl,hb,hm,hj⟩
        · exact hy
        · rcases hx with ⟨_,e⟩ | ⟨_,_,e⟩ | ⟨_,_,e⟩ | ⟨_,_,e⟩ | ⟨_,_,e,_⟩ <;> cases e
        · rcases hx with ⟨_,e⟩ | ⟨_,_,e⟩ | ⟨_,_,e⟩ | ⟨_,_,e⟩ | ⟨_,_,e,_⟩ <;> cases e
      exact ⟨Fl.at I hu0 hx hy' rx ry,Fl.rc I hu0 hx hy' rx ry⟩
    · obtain ⟨b,ys,rfl,hb,hm,hj⟩:∃ b ys,y = .ref b ∧ H b = some (.lst ys) ∧ ys.length = ds.length ∧ ∀ (i:Nat) u e,ys[i]? = some u → ds[i]? = some e → Rp H n u e:=by
        rcases hy with hy | ⟨b,ys,es,e1,e2,hb,hm,hj⟩ | ⟨b,ys,es,e1,e2,hb,hm,hj⟩
        · rcases hy with ⟨_,e⟩ | ⟨_,_,e⟩ | ⟨_,_,e⟩ | ⟨_,_,e⟩ | ⟨_,_,e,_⟩ <;> cases e
        · cases e2; exact ⟨b,ys,e1,hb,hm,hj⟩
        · cases e2
      cases rx
      cases ry
      obtain ⟨its,r1,p1,_⟩:=I.list (SqL.of ha)
      obtain ⟨jts,r2,p2,_⟩:=I.list (SqL.of hb)
      have l1:=r1.length
      have l2:=r2.length
      have el:∀ (j:Nat) (h1:j < its.toArray.size) (h2:j < jts.toArray.size),SeqAt.EqAt A.in1 s its.toArray[j] jts.toArray[j] true:=fun j h1 h2 => by
        obtain ⟨x1,g1,q1⟩:=r1.at2 h1
        obtain ⟨x2,g2,q2⟩:=r2.at2 h2
        obtain ⟨d,gd⟩:=Zci g1 hl
        exact (Rp.both I n A.in1 _ _ _ _ d (by show A.units + 1 + n < cLine; omega) (hi j _ _ g1 gd) (hj j _ _ g2 gd) q1 q2).1
      have rc:=SeqAt.RcAt.lists (A:=A) (e:=fun _ => true) p1.isList p2.isList (by simp; omega) hu0 el
      have rn:=SeqAt.RcNeAt.lists (A:=A) (e:=fun _ => true) p1.isList p2.isList (by simp; omega) hu0 el
      rw [Zbh] at rc rn
      refine ⟨?_,rc,rn⟩
      by_cases hab:a = b
      · subst hab; exact SeqAt.EqAt.same _
      · exact SeqAt.EqAt.of_refs hab rc
    · obtain ⟨b,ys,rfl,hb,hm,hj⟩:∃ b ys,y = .ref b ∧ H b = some (.tup ys) ∧ ys.length = ds.length ∧ ∀ (i:Nat) u e,ys[i]? = some u → ds[i]? = some e → Rp H n u e:=by
        rcases hy with hy | ⟨b,ys,es,e1,e2,hb,hm,hj⟩ | ⟨b,ys,es,e1,e2,hb,hm,hj⟩
        · rcases hy with ⟨_,e⟩ | ⟨_,_,e⟩ | ⟨_,_,e⟩ | ⟨_,_,e⟩ | ⟨_,_,e,_⟩ <;> cases e
        · cases e2
        · cases e2; exact ⟨b,ys,e1,hb,hm,hj⟩
      cases rx
      cases ry
      obtain ⟨its,r1,p1,_⟩:=I.tuple (SqT.of ha)
      obtain ⟨jts,r2,p2,_⟩:=I.tuple (SqT.of hb)
      have l1:=r1.length
      have l2:=r2.length
      have el:∀ (j:Nat) (h1:j < its.toArray.size) (h2:j < jts.toArray.size),SeqAt.EqAt A.in1 s its.toArray[j] jts.toArray[j] true:=fun j h1 h2 => by
        obtain ⟨x1,g1,q1⟩:=r1.at2 h1
        obtain ⟨x2,g2,q2⟩:=r2.at2 h2
        obtain ⟨d,gd⟩:=Zci g1 hl
        exact (Rp.both I n A.in1 _ _ _ _ d (by show A.units + 1 + n < cLine; omega) (hi j _ _ g1 gd) (hj j _ _ g2 gd) q1 q2).1
      have es:(its.toArray.size == jts.toArray.size) = true:=by simp; omega
      have rc:=SeqAt.RcAt.tuples (A:=A) (e:=fun _ => true) p1 p2 hu0 el
      have rn:=SeqAt.RcNeAt.tuples (A:=A) (e:=fun _ => true) p1 p2 hu0 el
      rw [Zbh,es] at rc rn
      refine ⟨?_,rc,rn⟩
      by_cases hab:a = b
      · subst hab; exact SeqAt.EqAt.same _
      · exact SeqAt.EqAt.of_refs hab rc
end
section
variable {X:Cx} {k:Nat}
def Zm8:R2:=fun x y H Q => ∃ d,Rp H 8 x d ∧ Rp H 8 y d ∧ Q (.bl true) H
def Zm9:R2:=fun x y H Q => ∃ d,Rp H 8 x d ∧ Rp H 8 y d ∧ Q (.bl false) H
theorem Zij (hr:Room k X.A):OpR X (compareOp .Eq) Zm8:=by
  intro pins s σ H x y v u Q I rx ry h
  obtain ⟨d,hx,hy,q⟩:=h
  have hu:=hr.units
  exact (Rp.both I 8 X.A x y v u d (by omega) hx hy rx ry).2.1 _ _ _ _ ⟨.bl true,H,I,rfl,q⟩
theorem Zik (hr:Room k X.A):OpR X (compareOp .NotEq) Zm9:=by
  intro pins s σ H x y v u Q I rx ry h
  obtain ⟨d,hx,hy,q⟩:=h
  have hu:=hr.units
  exact (Rp.both I 8 X.A x y v u d (by omega) hx hy rx ry).2.2 _ _ _ _ ⟨.bl false,H,I,rfl,q⟩
end
end L2
namespace L2
open PySem PySem.Spec PyProof.Rows
section
variable {X:Cx} {es:List Expr} {te:TE} {t:TA} {p:Pos} {k:Nat}
end
def All2 (R:V → PyData → Prop) (xs:List V) (ds:List PyData):Prop:=xs.length = ds.length ∧ ∀ (i:Nat) v d,xs[i]? = some v → ds[i]? = some d → R v d
section
variable {R R':V → PyData → Prop} {xs ys:List V} {ds es:List PyData} {x:V} {d:PyData}
theorem All2.nil:All2 R [] []:=⟨rfl,fun i v d h => by simp at h⟩
theorem All2.cons (h:R x d) (t:All2 R xs ds):All2 R (x :: xs) (d :: ds):=by
  refine ⟨by simp [t.1],fun i v e hv he => ?_⟩
  cases i with
  | zero => cases hv; cases he; exact h
  | succ i => exact t.2 i v e (by simpa using hv) (by simpa using he)
theorem All2.mono (h:All2 R xs ds) (f:∀ v d,R v d → R' v d):All2 R' xs ds:=⟨h.1,fun i v d a b => f v d (h.2 i v d a b)⟩
theorem All2.append (h:All2 R xs ds) (g:All2 R ys es):All2 R (xs ++ ys) (ds ++ es):=by
  refine ⟨by rw [List.length_append,List.length_append,h.1,g.1],fun i v e hv he => ?_⟩
  have l:=h.1
  by_cases hi:i < xs.length
  · rw [List.getElem?_append_left hi] at hv
    rw [List.getElem?_append_left (by omega)] at he
    exact h.2 i v e hv he
  · rw [List.getElem?_append_right (by omega)] at hv he
    rw [← l] at he
    exact g.2 _ v e hv he
theorem All2.take (h:All2 R xs ds) (n:Nat):All2 R (xs.take n) (ds.take n):=by
  refine ⟨by rw [List.length_take,List.length_take,h.1],fun i v e hv he => ?_⟩
  rw [List.getElem?_take] at hv he
  split at hv
  · rename_i hi
    rw [if_pos hi] at he
    exact h.2 i v e hv he
  · cases hv
theorem All2.drop (h:All2 R xs ds) (n:Nat):All2 R (xs.drop n) (ds.drop n):=by
  refine ⟨by rw [List.length_drop,List.length_drop,h.1],fun i v e hv he => ?_⟩
  rw [List.getElem?_drop] at hv he
  exact h.2 _ v e hv he
theorem All2.set (h:All2 R xs ds) (n:Nat) (g:R x d):All2 R (xs.set n x) (ds.set n d):=by
  refine ⟨by rw [List.length_set,List.length_set,h.1],fun i v e hv he => ?_⟩
  rw [List.getElem?_set] at hv he
  have l:=h.1
  split at hv
  · rename_i hi
    rw [if_pos hi] at he
    split at hv
    · rename_i hl
      rw [if_pos (by omega)] at he
      cases hv; cases he; exact g
    · cases hv
  · rename_i hi
    rw [if_neg hi] at he
    exact h.2 i v e hv he
theorem All2.one (h:R x d):All2 R [x] [d]:=.cons h .nil
theorem All2.get (h:All2 R xs ds) {i:Nat} (hv:xs[i]? = some x):∃ d,ds[i]? = some d ∧ R x d:=by
  obtain ⟨d,e⟩:=Zci hv h.1
  exact ⟨d,e,h.2 i x d hv e⟩
theorem ZgN {H:Hp} {n:Nat} {a:Addr} (h:H a = some (.lst xs)) (g:All2 (Rp H n) xs ds):Rp H (n + 1) (.ref a) (.list ds):=.inr (.inl ⟨a,xs,ds,rfl,rfl,h,g.1,g.2⟩)
theorem ZfF {H:Hp} {n:Nat} {a:Addr} (h:H a = some (.tup xs)) (g:All2 (Rp H n) xs ds):Rp H (n + 1) (.ref a) (.tuple ds):=.inr (.inr ⟨a,xs,ds,rfl,rfl,h,g.1,g.2⟩)
end
end L2
namespace L2
open PySem PySem.Spec PyProof.Rows
theorem Bits.le {n:Nat} {i j:Int} (h:Bits n j) (l:i.natAbs ≤ j.natAbs):Bits n i:=Bits.of (Nat.lt_of_le_of_lt l h.lt)
theorem Bits.up {n m:Nat} {i:Int} (h:Bits n i) (l:n ≤ m):Bits m i:=Nat.le_trans h l
theorem Bits.mulT {i j:Int} (h:Bits 1000000 i) (h':Bits 1000000 j):IntMulOk i j:=Bits.mul (h.up (by decide)) (h'.up (by decide))
theorem Bits.mulG {i j:Int} (h:Bits 1000000 i) (h':Bits 4000 j):IntMulOk i j:=h.mulT (h'.up (by decide))
theorem Bits.times {n m:Nat} {i j:Int} (h:Bits n i) (h':Bits m j):Bits (n + m) (i * j):=Bits.of (by
  rw [Int.natAbs_mul,Nat.pow_add]
  exact Nat.mul_lt_mul'' h.lt h'.lt)
theorem Bits.plus {n:Nat} {i j:Int} (h:Bits n i) (h':Bits n j):Bits (n + 1) (i + j):=Bits.of (by
  have:=Int.natAbs_add_le i j
  have a:=h.lt
  have b:=h'.lt
  rw [Nat.pow_succ]
  omega)
theorem Bits.log {n:Nat} {i:Int} (h:Bits n i) (h0:i ≠ 0):i.natAbs.log2 < n:=by
  have:i.natAbs.log2 + 1 ≤ n:=by unfold Bits Builtin.Int.intBits at h; simpa [h0] using h
  omega
section
variable {X:Cx}
theorem Zbv:OpR X (binaryOp .FloorDiv) (rI (fun _ j => j ≠ 0 ∧ Bits 4000 j) fun i j => .int (i.fdiv j)):=opI fun _ _ _ _ _ _ _ hc q => floordiv_int hc.1 q (.inl (PyProof.noPylong_of_log2 (Nat.lt_trans (hc.2.log hc.1) (by decide))))
end
end L2
namespace L2
open PySem PySem.Spec PyProof.Rows
def AllG {β:Type} (R:V → β → Prop) (xs:List V) (ds:List β):Prop:=xs.length = ds.length ∧ ∀ (i:Nat) v d,xs[i]? = some v → ds[i]? = some d → R v d
section
variable {β:Type} {R R':V → β → Prop} {xs ys:List V} {ds es:List β} {x:V} {d:β}
theorem AllG.nil:AllG R [] []:=⟨rfl,fun i v d h => by simp at h⟩
theorem AllG.cons (h:R x d) (t:AllG R xs ds):AllG R (x :: xs) (d :: ds):=by
  refine ⟨by simp [t.1],fun i v e hv he => ?_⟩
  cases i with
  | zero => cases hv; cases he; exact h
  | succ i => exact t.2 i v e (by simpa using hv) (by simpa using he)
theorem AllG.mono (h:AllG R xs ds) (f:∀ v d,R v d → R' v d):AllG R' xs ds:=⟨h.1,fun i v d a b => f v d (h.2 i v d a b)⟩
theorem AllG.append (h:AllG R xs ds) (g:AllG R ys es):AllG R (xs ++ ys) (ds ++ es):=by
  refine ⟨by rw [List.length_append,List.length_append,h.1,g.1],fun i v e hv he => ?_⟩
  have l:=h.1
  by_cases hi:i < xs.length
  · rw [List.getElem?_append_left hi] at hv
    rw [List.getElem?_append_left (by omega)] at he
    exact h.2 i v e hv he
  · rw [List.getElem?_append_right (by omega)] at hv he
    rw [← l] at he
    exact g.2 _ v e hv he
theorem AllG.take (h:AllG R xs ds) (n:Nat):AllG R (xs.take n) (ds.take n):=by
  refine ⟨by rw [List.length_take,List.length_take,h.1],fun i v e hv he => ?_⟩
  rw [List.getElem?_take] at hv he
  split at hv
  · rename_i hi
    rw [if_pos hi] at he
    exact h.2 i v e hv he
  · cases hv
theorem AllG.drop (h:AllG R xs ds) (n:Nat):AllG R (xs.drop n) (ds.drop n):=by
  refine ⟨by rw [List.length_drop,List.length_drop,h.1],fun i v e hv he => ?_⟩
  rw [List.getElem?_drop] at hv he
  exact h.2 _ v e hv he
theorem AllG.set (h:AllG R xs ds) (n:Nat) (g:R x d):AllG R (xs.set n x) (ds.set n d):=by
  refine ⟨by rw [List.length_set,List.length_set,h.1],fun i v e hv he => ?_⟩
  rw [List.getElem?_set] at hv he
  have l:=h.1
  split at hv
  · rename_i hi
    rw [if_pos hi] at he
    split at hv
    · rename_i hl
      rw [if_pos (by omega)] at he
      cases hv; cases he; exact g
    · cases hv
  · rename_i hi
    rw [if_neg hi] at he
    exact h.2 i v e hv he
theorem AllG.one (h:R x d):AllG R [x] [d]:=.cons h .nil
theorem AllG.get (h:AllG R xs ds) {i:Nat} (hv:xs[i]? = some x):∃ d,ds[i]? = some d ∧ R x d:=by
  obtain ⟨d,e⟩:=Zci hv h.1
  exact ⟨d,e,h.2 i x d hv e⟩
theorem AllG.at (h:AllG R xs ds) {i:Nat} {b:β} (hd:ds[i]? = some b):∃ x,xs[i]? = some x ∧ R x b:=by
  have l:=h.1
  have hi:=(List.getElem?_eq_some_iff.mp hd).1
  exact ⟨xs[i]'(by omega),List.getElem?_eq_getElem (by omega),h.2 i _ _ (List.getElem?_eq_getElem (by omega)) hd⟩
theorem AllG.all2 {D:β → PyData} {R2:V → PyData → Prop} (h:AllG R xs ds) (f:∀ v b,R v b → R2 v (D b)):All2 R2 xs (ds.map D):=by
  refine ⟨by rw [List.length_map]; exact h.1,fun i v d hv hd => ?_⟩
  rw [List.getElem?_map] at hd
  cases e:ds[i]? with
  | none => rw [e] at hd; cases hd
  | some b => rw [e] at hd; cases hd; exact f v b (h.2 i v b hv e)
theorem AllG.zip {α:Type} {R3:V → α → Prop} {as:List α} (h:AllG R xs ds) (g:AllG R3 ys as) {i:Nat} {a b:V} (ha:xs[i]? = some a) (hb:ys[i]? = some b):∃ p q,ds[i]? = some p ∧ as[i]? = some q ∧ R a p ∧ R3 b q:=by
  obtain ⟨p,hp,rp⟩:=h.get ha
  obtain ⟨q,hq,rq⟩:=g.get hb
  exact ⟨p,q,hp,hq,rp,rq⟩
end
end L2
namespace L2
open PySem PySem.Spec PyProof.Rows
section
variable {X:Cx} {k:Nat}
theorem Zj0 {x y:V} {us:List Value} (r:Vals [x,y] us):∃ u v,us = [u,v] ∧ RelV x u ∧ RelV y v:=by
  cases r with
  | cons r t => cases t with
    | cons r2 t2 => cases t2; exact ⟨_,_,rfl,r,r2⟩
end
end L2
namespace L2
open PySem PySem.Spec PyProof.Rows
section
variable {X:Cx} {tg:Expr}
end
section
variable {X:Cx} {k:Nat}
end
end L2
namespace L2
open PySem PySem.Spec PyProof.Rows
section
variable {X:Cx} {tg iter elt:Expr} {scope:Scope} {pos:Pos} {wi:TI} {g:TG} {te:TE} {own:List Str} {caps:List (Nat × Str)}
end
end L2
namespace L2
open PySem PySem.Spec PyProof.Rows
def ZkI (H:Hp) (x y:V) (b:Bool):Prop:=(∃ i j:Int,x = .int i ∧ y = .int j ∧ b = decide (i = j)) ∨
  (∃ (a c:Addr) (n1 d1 n2 d2:Int),x = .ref a ∧ y = .ref c ∧ H a = some (.tup [.int n1,.int d1]) ∧ H c = some (.tup [.int n2,.int d2]) ∧ b = (decide (n1 = n2) && decide (d1 = d2)))
section
variable {X:Cx} {k:Nat}
def Zna:R2:=fun x y H Q => ∃ b,ZkI H x y b ∧ Q (.bl b) H
def Znb:R2:=fun x y H Q => ∃ b,ZkI H x y b ∧ Q (.bl !b) H
theorem Zil {pins:List (Addr × Obj)} {s:Shared} {σ:St} {H:Hp} {a c:Addr} {n1 d1 n2 d2:Int} {A:Around} (I:Inv X pins σ H s) (ha:H a = some (.tup [.int n1,.int d1])) (hc:H c = some (.tup [.int n2,.int d2])) (hu:A.units < cLine) :
    SeqAt.RcAt A s (.ref a) (.ref c) (decide (n1 = n2) && decide (d1 = d2)) ∧ SeqAt.RcNeAt A s (.ref a) (.ref c) (!(decide (n1 = n2) && decide (d1 = d2))):=by
  obtain ⟨its,r1,p1,_⟩:=I.tuple (SqT.of ha)
  obtain ⟨u1,u2,rfl,ru1,ru2⟩:=Zj0 r1
  obtain ⟨t1,rfl⟩:=ru1
  obtain ⟨t2,rfl⟩:=ru2
  obtain ⟨jts,r2,p2,_⟩:=I.tuple (SqT.of hc)
  obtain ⟨w1,w2,rfl,rw1,rw2⟩:=Zj0 r2
  obtain ⟨s1,rfl⟩:=rw1
  obtain ⟨s2,rfl⟩:=rw2
  have el:∀ (j:Nat) (h1:j < (#[Value.int n1 t1,Value.int d1 t2]:Array Value).size) (h2:j < (#[Value.int n2 s1,Value.int d2 s2]:Array Value).size),SeqAt.EqAt A.in1 s (#[Value.int n1 t1,Value.int d1 t2]:Array Value)[j] (#[Value.int n2 s1,Value.int d2 s2]:Array Value)[j] (if j = 0 then n1 == n2 else d1 == d2):=fun j h1 h2 => by
    have h1':j < 2:=h1
    match j,h1' with
    | 0,_ => exact SeqAt.EqAt.int_int n1 t1 n2 s1
    | 1,_ => exact SeqAt.EqAt.int_int d1 t2 d2 s2
  have e:((List.range (min (#[Value.int n1 t1,Value.int d1 t2]).size (#[Value.int n2 s1,Value.int d2 s2]).size)).all (fun j => if j = 0 then n1 == n2 else d1 == d2) && (#[Value.int n1 t1,Value.int d1 t2]).size == (#[Value.int n2 s1,Value.int d2 s2]).size) = (decide (n1 = n2) && decide (d1 = d2)):=by
    show ((n1 == n2) && ((d1 == d2) && true) && true) = _
    rw [Bool.and_true,Bool.and_true]
    rfl
  have rc:=SeqAt.RcAt.tuples (A:=A) (e:=fun j => if j = 0 then n1 == n2 else d1 == d2) p1 p2 hu el
  have rn:=SeqAt.RcNeAt.tuples (A:=A) (e:=fun j => if j = 0 then n1 == n2 else d1 == d2) p1 p2 hu el
  rw [e] at rc rn
  exact ⟨rc,rn⟩
theorem Zj1 (hr:Room k X.A):OpR X (compareOp .Eq) Zna:=by
  intro pins s σ H x y v u Q I rx ry h
  obtain ⟨b,hb,q⟩:=h
  rcases hb with ⟨i,j,rfl,rfl,rfl⟩ | ⟨a,c,n1,d1,n2,d2,rfl,rfl,ha,hc,rfl⟩
  · refine Zbi pins s σ H _ _ v u Q I rx ry ⟨rfl,?_⟩
    have:decide (V.int i = V.int j) = decide (i = j):=by rw [ZeI]; rfl
    rw [this]; exact q
  · cases rx
    cases ry
    have hu:X.A.units < cLine:=by have:=hr.units; omega
    exact (Zil I ha hc hu).1 _ _ _ _ ⟨.bl _,H,I,rfl,q⟩
theorem Zlx (hr:Room k X.A):OpR X (compareOp .NotEq) Znb:=by
  intro pins s σ H x y v u Q I rx ry h
  obtain ⟨b,hb,q⟩:=h
  rcases hb with ⟨i,j,rfl,rfl,rfl⟩ | ⟨a,c,n1,d1,n2,d2,rfl,rfl,ha,hc,rfl⟩
  · refine ZdG pins s σ H _ _ v u Q I rx ry ⟨rfl,?_⟩
    have:decide (V.int i = V.int j) = decide (i = j):=by rw [ZeI]; rfl
    rw [this]; exact q
  · cases rx
    cases ry
    have hu:X.A.units < cLine:=by have:=hr.units; omega
    exact (Zil I ha hc hu).2 _ _ _ _ ⟨.bl _,H,I,rfl,q⟩
end
end L2
namespace L2
open PySem PySem.Spec PyProof.Rows
section
variable {X:Cx} {tg iter elt cnd:Expr} {scope:Scope} {pos:Pos} {wi:TI} {g:TG} {tt:TT} {te:TE} {own:List Str} {caps:List (Nat × Str)}
end
end L2
namespace L2
open PySem PySem.Spec PyProof.Rows
end L2
namespace My
open PySem L2 PyProof.Rows
def top (i:Nat):Stmt:=PySem.Challenge.pw_turnframe_k43_polys_as_numbers.main.body.getD i (.Pass ⟨0,0,0,0⟩)
abbrev ZbT:Stmt:=top 13
abbrev ZdP:Stmt:=top 14
abbrev ZeR:Stmt:=top 15
abbrev Zcj:Stmt:=top 16
abbrev Zdh:Stmt:=top 17
abbrev ZcJ:Stmt:=Zay (top 19) 0
abbrev ZaB:Stmt:=Zay (top 20) 0
abbrev Zbm:Stmt:=Zay (top 20) 1
abbrev Zba:Stmt:=Zay (top 20) 2
abbrev Zbb:Stmt:=Zay (top 20) 3
abbrev Zbn:Stmt:=Zay (top 20) 4
abbrev ZaF:Stmt:=Zay (top 20) 5
abbrev ZaI:Stmt:=Zay (top 20) 6
abbrev ZaS:Stmt:=Zay (top 20) 8
abbrev ZaT:Stmt:=Zay (top 20) 9
abbrev Zbo:Stmt:=Zay (top 21) 0
abbrev ZaY:Stmt:=Zay (top 21) 1
abbrev Zck:Stmt:=Zay (top 21) 2
abbrev Zb2:Stmt:=Zay (top 21) 3
abbrev Zb3:Stmt:=Zay (top 21) 4
abbrev Zcl:Stmt:=Zay (top 21) 5
abbrev ZaM:Stmt:=Zay (top 21) 6
abbrev Zbc:Stmt:=Zay (top 21) 7
abbrev Zbd:Stmt:=Zay (top 21) 8
abbrev ZdQ:Stmt:=top 23
abbrev Zbp:Stmt:=top 24
abbrev Zbq:Stmt:=Zay (top 25) 0
abbrev ZaZ:Stmt:=Zay (top 25) 1
abbrev Zcm:Stmt:=Zay (top 25) 2
abbrev Zb4:Stmt:=Zay (top 25) 3
abbrev Zb5:Stmt:=Zay (top 25) 4
abbrev Zcn:Stmt:=Zay (top 25) 5
abbrev Zbe:Stmt:=Zay (top 25) 6
abbrev Zbf:Stmt:=Zay (top 25) 7
abbrev ZdR:Stmt:=top 27
abbrev ZcK:Stmt:=top 28
abbrev Zco:Stmt:=top 29
abbrev ZdS:Stmt:=top 30
abbrev Zcp:Stmt:=top 31
abbrev ZeS:Stmt:=top 32
abbrev Zcq:Stmt:=top 33
abbrev ZeT:Stmt:=top 34
abbrev ZeU:Stmt:=top 35
abbrev ZdT:Stmt:=top 36
abbrev Zb6:Stmt:=top 38
abbrev ZdU:Stmt:=top 39
abbrev ZdV:Stmt:=top 40
abbrev Zf8:Stmt:=top 41
abbrev ZeV:Stmt:=top 42
abbrev ZcL:Stmt:=top 43
abbrev Zb7:Stmt:=top 44
abbrev ZbQ:Stmt:=top 45
abbrev ZeW:Stmt:=top 46
abbrev ZeX:Stmt:=top 47
abbrev ZdW:Stmt:=top 48
abbrev ZcM:Stmt:=top 49
abbrev Zcr:Stmt:=top 50
abbrev Zcs:Stmt:=top 51
abbrev ZdX:Stmt:=top 52
abbrev ZdY:Stmt:=top 53
structure Nm (mg:Str → Option Value):Prop where
  abs:mg "abs" = none
  isinstance:mg "isinstance" = none
  int:mg "int" = none
  bool:mg "bool" = none
  tuple:mg "tuple" = none
  list:mg "list" = none
  len:mg "len" = none
  range:mg "range" = none
  PB:∃ t,mg "PRIME_BOUND" = some (.int 1000000 t)
theorem nm_mk {mg:Str → Option Value} {v:Value} (h1:mg "PRIME_BOUND" = some v) (h2:∃ t,v = .int 1000000 t) (a1:mg "abs" = none) (a2:mg "isinstance" = none) (a3:mg "int" = none) (a4:mg "bool" = none) (a5:mg "tuple" = none) (a6:mg "list" = none) (a7:mg "len" = none) (a8:mg "range" = none):Nm mg :=
  ⟨a1,a2,a3,a4,a5,a6,a7,a8,let ⟨t,e⟩:=h2; ⟨t,by rw [h1,e]⟩⟩
structure Kd (K:PySem.W.Frag) (mg:Str → Option Value) (CF CR:Addr):Prop where
  clF:Cls K CF
  clR:Cls K CR
  nP:NoAttr K CR "prime"
  mkF:Mk0 K CF
  mgF:mg "Fractions" = some (.ref CF)
  mgR:mg "Rests" = some (.ref CR)
def fsR (p:Int):List (Str × V):=Zfk "prime" (.int p) []
theorem Zbk (p:Int):(fsR p).lookup ("prime" : Str) = some (.int p):=by
  unfold fsR
  rw [ZbX,if_pos rfl]
theorem ZcE (p:Int) {m:Str} (h:¬ m = "prime"):(fsR p).lookup m = none:=by
  unfold fsR
  rw [ZbX,if_neg h]
  rfl
structure Fc (a b:Int):Prop where
  pos:0 < b
  cop:Int.gcd a b = 1
def FrA (CF:Addr) (H:Hp) (a:Addr):Prop:=∃ dx,H a = some (.ins CF dx [])
theorem Zim {b:Int} (h:0 < b):0 < b.natAbs:=Nat.pos_of_ne_zero (Int.natAbs_ne_zero.mpr (Int.ne_of_gt h))
def ZaG:Sp:=fun vs H Q _ => ∃ a b:Int,vs = [.int a,.int b] ∧ Q (.int (Int.gcd a b)) H
section
variable {P:Program} {w:World} {K:PySem.W.Frag} {mg:Str → Option Value} {base:Heap}
theorem sc_divisor:FnScope ["one", "other", "rest"] ["one", "other"] (Zag ZdP):=⟨rfl,rfl,rfl,by decide +kernel,rfl,by decide +kernel,by decide +kernel⟩
theorem Zhm (h:Here K mg "divisor" ZdP) (T:Nm mg):Has P w K mg base "divisor" 1 ["one", "other"] ZaG:=by
  refine h.has (fun f fd F => F.binds fun _ _ _ _ _ _ us hl => by obtain ⟨_,_,rfl⟩:=Zdg hl; exact rfl) fun f fd F => F.ok sc_divisor (fun vs H Q E h => ?_) (fun cdv A outer s H vs Q E hr h => ?_)
  · obtain ⟨a,b,rfl,_⟩:=h
    rfl
  obtain ⟨x,y,rfl,k⟩:=h
  have nd:=sc_divisor.nd
  refine ⟨_,(Zad (ZbH PassesOwn.never (Zap ZdG (pv 1) Zac (Zan _)) (Zad (Zas (i:=2) nd rfl (Or.inl rfl) (Zaj ZaQ (pv 0) (pv 1)))
      (Zad (Zas (i:=0) nd rfl (Or.inl rfl) (pv 1))
      (Zae (Zas (i:=1) nd rfl (Or.inl rfl) (pv 2))))))
    (Zae (Zai (Zak ZgD (by rfl) T.abs boot_abs (Zaa (pv 0) Zab))))),?_⟩
  refine ⟨fun m σ H' => ∃ (a b:Int) (r:Option V),m = b.natAbs ∧ σ = [some (.int a),some (.int b),r] ∧ H' = H ∧ Int.gcd a b = Int.gcd x y,⟨_,x,y,none,rfl,rfl,rfl,rfl⟩,?_⟩
  rintro m σ H' ⟨a,b,r,rfl,rfl,rfl,g⟩
  refine ⟨_,rfl,rfl,_,rfl,?_⟩
  refine Zdo (fun hb => ⟨_,fun _ _ h => h,?_⟩) (fun hb => ?_)
  · refine ⟨_,rfl,_,rfl,_,_,rfl,rfl,hb,_,rfl,_,rfl,?_⟩
    exact ⟨_,M1.fmod_lt a hb,b,a.fmod b,_,rfl,rfl,rfl,by rw [M1.fmod_gcd]; exact g⟩
  · refine ⟨_,rfl,_,rfl,?_⟩
    subst hb
    rw [← M1.gcd_zero' a,g]
    exact k
end
section
variable {P:Program} {w:World} {K:PySem.W.Frag} {mg:Str → Option Value} {base:Heap}
theorem sc_l_divisor:FnScope ["_law_one", "_law_other"] ["_law_one", "_law_other"] (Zag ZcK):=⟨rfl,rfl,rfl,by decide +kernel,rfl,by decide +kernel,by decide +kernel⟩
theorem ZfG (h:Here K mg "_law_divisor" ZcK) (T:Nm mg):Has P w K mg base "_law_divisor" 1 ["_law_one", "_law_other"] ZaG:=by
  refine h.has (fun f fd F => F.binds fun _ _ _ _ _ _ us hl => by obtain ⟨_,_,rfl⟩:=Zdg hl; exact rfl) fun f fd F => F.ok sc_l_divisor (fun vs H Q E h => ?_) (fun cdv A outer s H vs Q E hr h => ?_)
  · obtain ⟨a,b,rfl,_⟩:=h
    rfl
  obtain ⟨x,y,rfl,k⟩:=h
  have nd:=sc_l_divisor.nd
  refine ⟨_,(Zad (ZbH PassesOwn.never (Zap ZdG (pv 1) Zac (Zan _)) (Zae (Zlf (i:=0) (j:=1) rfl nd rfl rfl (by decide) rfl rfl (Zaa (pv 1) (Zaa (Zaj ZaQ (pv 0) (pv 1)) Zab)) rfl)))
    (Zae (Zai (Zak ZgD (by rfl) T.abs boot_abs (Zaa (pv 0) Zab))))),?_⟩
  refine ⟨fun m σ H' => ∃ (a b:Int),m = b.natAbs ∧ σ = [some (.int a),some (.int b)] ∧ H' = H ∧ Int.gcd a b = Int.gcd x y,⟨_,x,y,rfl,rfl,rfl,rfl⟩,?_⟩
  rintro m σ H' ⟨a,b,rfl,rfl,rfl,g⟩
  refine ⟨_,rfl,rfl,_,rfl,?_⟩
  refine Zdo (fun hb => ⟨_,fun _ _ h => h,?_⟩) (fun hb => ?_)
  · refine ⟨_,rfl,_,rfl,_,rfl,_,_,rfl,rfl,hb,_,_,rfl,?_⟩
    exact ⟨_,M1.fmod_lt a hb,b,a.fmod b,rfl,rfl,rfl,by rw [M1.fmod_gcd]; exact g⟩
  · refine ⟨_,rfl,_,rfl,?_⟩
    subst hb
    rw [← M1.gcd_zero' a,g]
    exact k
end
def Zdy:Sp:=fun vs H Q _ => ∃ i:Int,vs = [.int i] ∧ Q (.bl true) H
section
variable {P:Program} {w:World} {K:PySem.W.Frag} {mg:Str → Option Value} {base:Heap}
theorem Zf9:FnScope ["thing"] ["thing"] (Zag ZbT):=⟨rfl,rfl,rfl,by decide +kernel,rfl,by decide +kernel,by decide +kernel⟩
theorem Zga (h:Here K mg "is_whole" ZbT) (T:Nm mg):Has P w K mg base "is_whole" 1 ["thing"] Zdy:=by
  refine h.has (fun f fd F => F.binds fun _ _ _ _ _ _ us hl => by obtain ⟨_,rfl⟩:=Zjl hl; exact rfl) fun f fd F => F.ok Zf9 (fun vs H Q E h => ?_) (fun cdv A outer s H vs Q E hr h => ?_)
  · obtain ⟨_,rfl,_⟩:=h
    rfl
  obtain ⟨i,rfl,k⟩:=h
  refine ⟨_,(Zae (Zai (Zca (Zak ZbZ (by rfl) T.isinstance boot_isinstance (Zaa (pv 0) (Zaa (Zdu (by rfl) T.int boot_int) Zab))) (ZbG (Zgy (Zak ZbZ (by rfl) T.isinstance boot_isinstance (Zaa (pv 0) (Zaa (Zdu (by rfl) T.bool boot_bool) Zab)))))))),?_⟩
  refine ⟨_,rfl,_,_,_,_,rfl,.int i,Za7 K _,_,rfl,?_⟩
  refine Zei ?_
  exact ⟨_,rfl,_,_,_,_,rfl,.int i,Zcg K,_,rfl,k⟩
end
section
variable {P:Program} {w:World} {K:PySem.W.Frag} {mg:Str → Option Value} {base:Heap}
theorem Zhn:FnScope ["_law_found"] ["_law_found"] (Zag ZdR):=⟨rfl,rfl,rfl,by decide +kernel,rfl,by decide +kernel,by decide +kernel⟩
theorem Zho (h:Here K mg "_law_whole" ZdR) (T:Nm mg):Has P w K mg base "_law_whole" 1 ["_law_found"] Zdy:=by
  refine h.has (fun f fd F => F.binds fun _ _ _ _ _ _ us hl => by obtain ⟨_,rfl⟩:=Zjl hl; exact rfl) fun f fd F => F.ok Zhn (fun vs H Q E h => ?_) (fun cdv A outer s H vs Q E hr h => ?_)
  · obtain ⟨_,rfl,_⟩:=h
    rfl
  obtain ⟨i,rfl,k⟩:=h
  refine ⟨_,(Zae (Zai (Zca (Zak ZbZ (by rfl) T.isinstance boot_isinstance (Zaa (pv 0) (Zaa (Zdu (by rfl) T.int boot_int) Zab))) (ZbG (Zgy (Zak ZbZ (by rfl) T.isinstance boot_isinstance (Zaa (pv 0) (Zaa (Zdu (by rfl) T.bool boot_bool) Zab)))))))),?_⟩
  refine ⟨_,rfl,_,_,_,_,rfl,.int i,Za7 K _,_,rfl,?_⟩
  refine Zei ?_
  exact ⟨_,rfl,_,_,_,_,rfl,.int i,Zcg K,_,rfl,k⟩
end
def Zdz:Sp:=fun vs H Q _ => ∃ n:Int,vs = [.int n] ∧ n < 1000000 ∧ (M2.Prm n → Q (.bl true) H) ∧ (¬ M2.Prm n → Q (.bl false) H)
section
variable {P:Program} {w:World} {K:PySem.W.Frag} {mg:Str → Option Value} {base:Heap}
theorem sc_is_prime:FnScope ["number", "trial"] ["number"] (Zag Zdh):=⟨rfl,rfl,rfl,by decide +kernel,rfl,by decide +kernel,by decide +kernel⟩
theorem Zgb (h:Here K mg "is_prime" Zdh) (T:Nm mg):Has P w K mg base "is_prime" 1 ["number"] Zdz:=by
  refine h.has (fun f fd F => F.binds fun _ _ _ _ _ _ us hl => by obtain ⟨_,rfl⟩:=Zjl hl; exact rfl) fun f fd F => F.ok sc_is_prime (fun vs H Q E h => ?_) (fun cdv A outer s H vs Q E hr h => ?_)
  · obtain ⟨_,rfl,_⟩:=h
    rfl
  obtain ⟨n,rfl,hn,kt,kf⟩:=h
  have nd:=sc_is_prime.nd
  obtain ⟨tk,hPB⟩:=T.PB
  refine ⟨_,(Zad (ZaC (ZbW (Zap ZfY (pv 0) Zac (Zan _)) (ZbF (Zap Zja (pv 0) (Zbl (v:=.int 1000000) (by rfl) hPB ⟨tk,rfl⟩) (Zan _)))).pt (Zae (Zai ZaX)) Zao)
    (Zad (ZaC (Zap Zbi (Zaj Za3 (pv 0) Zac) Zac (Zan _)) (Zae (Zai (ZaR Zbi (pv 0) Zac (Zan _)))) Zao)
    (Zad (Zas (i:=1) nd rfl (Or.inl rfl) Zac)
    (Zad (ZbH PassesOwn.never (Zap Zi9 (Zaj Zaz (pv 1) (pv 1)) (pv 0) (Zan _)) (Zad (ZaC (Zap Zbi (Zaj ZaQ (pv 0) (pv 1)) Zac (Zan _)) (Zae (Zai ZaX)) Zao)
      (Zae (ZhJ (i:=1) nd rfl (Or.inl rfl) Zac ZjS))))
    (Zae (Zai ZaX)))))),?_⟩
  refine ⟨_,rfl,_,_,rfl,rfl,_,rfl,?_⟩
  refine ZbI (fun h => Zei (kf fun p => by have:=p.1; omega)) (fun h2 => ?_)
  refine ⟨_,rfl,_,_,rfl,rfl,_,rfl,?_⟩
  refine ZbI (fun h => absurd h (by omega)) (fun _ => ?_)
  refine ⟨_,rfl,_,_,rfl,rfl,(by show (0:Int) < _; decide),rfl,_,rfl,?_⟩
  refine ZbD (fun e => ?_) (fun e => ?_)
  · refine ⟨_,rfl,rfl,?_⟩
    rw [ZeN]
    have iff:=M2.prm_even (n:=n) (by omega) e
    by_cases hp:n = 2
    · rw [decide_eq_true hp]; exact kt (iff.mpr hp)
    · rw [decide_eq_false hp]; exact kf fun z => hp (iff.mp z)
  refine ⟨fun m σ H' => ∃ t:Int,m = (n + 2 - t).toNat ∧ σ = [some (.int n),some (.int t)] ∧ H' = H ∧ 3 ≤ t ∧ t % 2 = 1 ∧ t ≤ n + 2 ∧ M2.No n t,⟨_,3,rfl,rfl,rfl,by omega,by omega,by omega,M2.No.odd e⟩,?_⟩
  rintro m σ H' ⟨t,rfl,rfl,rfl,h3,ho,hle,no⟩
  have tf:t.natAbs ≤ 10 ^ 150:=Nat.le_trans (show t.natAbs ≤ 1000002 by omega) (by decide)
  refine ⟨_,rfl,_,rfl,_,_,rfl,rfl,(Za6 tf tf),_,rfl,_,_,rfl,rfl,_,rfl,?_⟩
  refine ZbI (fun hl => ⟨_,fun _ _ h => h,?_⟩) (fun hl => ?_)
  · refine ⟨_,rfl,_,rfl,_,_,rfl,rfl,(show t ≠ 0 by omega),rfl,_,rfl,?_⟩
    have lt:=M2.le_of_sq (by omega) hl
    refine ZbD (fun z => kf (M2.found (by omega) hl ((M2.fmod_dvd (by omega)).mp z))) (fun z => ?_)
    refine ⟨_,rfl,_,_,rfl,rfl,?_⟩
    exact ⟨_,by omega,t + 2,rfl,rfl,rfl,by omega,by omega,by omega,no.next e ho fun d => z ((M2.fmod_dvd (by omega)).mpr d)⟩
  · exact kt (no.done (by omega) (by omega) hl)
end
section
variable {P:Program} {w:World} {K:PySem.W.Frag} {mg:Str → Option Value} {base:Heap}
theorem sc_l_is_prime:FnScope ["_law_number_here", "_law_by"] ["_law_number_here"] (Zag Zco):=⟨rfl,rfl,rfl,by decide +kernel,rfl,by decide +kernel,by decide +kernel⟩
theorem ZeY (h:Here K mg "_law_is_prime" Zco):Has P w K mg base "_law_is_prime" 1 ["_law_number_here"] Zdz:=by
  refine h.has (fun f fd F => F.binds fun _ _ _ _ _ _ us hl => by obtain ⟨_,rfl⟩:=Zjl hl; exact rfl) fun f fd F => F.ok sc_l_is_prime (fun vs H Q E h => ?_) (fun cdv A outer s H vs Q E hr h => ?_)
  · obtain ⟨_,rfl,_⟩:=h
    rfl
  obtain ⟨n,rfl,hn,kt,kf⟩:=h
  have nd:=sc_l_is_prime.nd
  refine ⟨_,(Zad (Zas (i:=1) nd rfl (Or.inl rfl) Zac)
    (Zad (ZbH PassesOwn.never (Zap Zi9 (Zaj Zaz (pv 1) (pv 1)) (pv 0) (Zan _)) (Zad (ZaC (Zap Zbi (Zaj ZaQ (pv 0) (pv 1)) Zac (Zan _)) (Zae (Zai ZaX)) Zao)
      (Zae (Zas (i:=1) nd rfl (Or.inl rfl) (Zaj ZaP (pv 1) Zac)))))
    (Zae (Zai (ZaR ZfZ (pv 0) Zac (Zan _)))))),?_⟩
  refine ⟨fun m σ H' => ∃ t:Int,m = (n + 2 - t).toNat ∧ σ = [some (.int n),some (.int t)] ∧ H' = H ∧ 2 ≤ t ∧ (t ≤ 2 ∨ t ≤ n) ∧ M2.No n t,⟨_,2,rfl,rfl,rfl,by omega,by omega,M2.No.two⟩,?_⟩
  rintro m σ H' ⟨t,rfl,rfl,rfl,h3,hle,no⟩
  have tf:t.natAbs ≤ 10 ^ 150:=Nat.le_trans (show t.natAbs ≤ 1000002 by omega) (by decide)
  refine ⟨_,rfl,_,rfl,_,_,rfl,rfl,(Za6 tf tf),_,rfl,_,_,rfl,rfl,_,rfl,?_⟩
  refine ZbI (fun hl => ⟨_,fun _ _ h => h,?_⟩) (fun hl => ?_)
  · refine ⟨_,rfl,_,rfl,_,_,rfl,rfl,(show t ≠ 0 by omega),rfl,_,rfl,?_⟩
    have lt:=M2.le_of_sq (by omega) hl
    refine ZbD (fun z => kf (M2.found (by omega) hl ((M2.fmod_dvd (by omega)).mp z))) (fun z => ?_)
    refine ⟨_,rfl,_,_,rfl,rfl,?_⟩
    exact ⟨_,by omega,t + 1,rfl,rfl,rfl,by omega,by omega,no.one fun d => z ((M2.fmod_dvd (by omega)).mpr d)⟩
  · refine ⟨_,rfl,_,_,rfl,rfl,?_⟩
    show Q (V.bl (decide (1 < n))) _
    by_cases h2:1 < n
    · rw [decide_eq_true h2]; exact kt (no.done (by omega) (by omega) hl)
    · rw [decide_eq_false h2]; exact kf fun p => by have:=p.1; omega
end
def ZcX (K:PySem.W.Frag):Sp:=fun vs H Q _ => ∃ (p r:Addr) (q a0 a1 a2 b0 b1 b2:Int),vs = [.ref p,.int q,.ref r] ∧ SqT K H p [.int a0,.int a1,.int a2] ∧ SqT K H r [.int b0,.int b1,.int b2] ∧
  IntMulOk q b0 ∧ IntMulOk q b1 ∧ IntMulOk q b2 ∧ ∀ t,H t = none → Q (.ref t) (upd H t (.tup [.int (a0 - q * b0),.int (a1 - q * b1),.int (a2 - q * b2)]))
section
variable {P:Program} {w:World} {K:PySem.W.Frag} {mg:Str → Option Value} {base:Heap}
theorem ZeZ:FnScope ["some", "factor", "others"] ["some", "factor", "others"] (Zag Zcj):=⟨rfl,rfl,rfl,by decide +kernel,rfl,by decide +kernel,by decide +kernel⟩
theorem Ze0 (h:Here K mg "less_times" Zcj):Has P w K mg base "less_times" 1 ["some", "factor", "others"] (ZcX K):=by
  refine h.has (fun f fd F => F.binds fun _ _ _ _ _ _ us hl => by obtain ⟨_,_,_,rfl⟩:=Zdv hl; exact rfl) fun f fd F => F.ok ZeZ (fun vs H Q E h => ?_) (fun cdv A outer s H vs Q E hr h => ?_)
  · obtain ⟨_,_,_,_,_,_,_,_,_,rfl,_⟩:=h
    rfl
  obtain ⟨p,r,q,a0,a1,a2,b0,b1,b2,rfl,hp,hq,m0,m1,m2,k⟩:=h
  refine ⟨_,(Zae (Zai (Zbs (Zaa (Zaj ZbB (Zar Zaq (pv 0) Zac (fun _ _ => rfl)) (Zaj Zaz (pv 1) (Zar Zaq (pv 2) Zac (fun _ _ => rfl)))) (Zaa (Zaj ZbB (Zar Zaq (pv 0) Zac (fun _ _ => rfl)) (Zaj Zaz (pv 1) (Zar Zaq (pv 2) Zac (fun _ _ => rfl)))) (Zaa (Zaj ZbB (Zar Zaq (pv 0) Zac (fun _ _ => rfl)) (Zaj Zaz (pv 1) (Zar Zaq (pv 2) Zac (fun _ _ => rfl)))) Zab)))))),?_⟩
  refine ⟨_,rfl,_,_,_,_,rfl,rfl,hp,rfl,_,rfl,_,rfl,_,_,_,_,rfl,rfl,hq,rfl,_,_,rfl,rfl,m0,_,_,rfl,rfl,?_⟩
  refine ⟨_,rfl,_,_,_,_,rfl,rfl,hp,rfl,_,rfl,_,rfl,_,_,_,_,rfl,rfl,hq,rfl,_,_,rfl,rfl,m1,_,_,rfl,rfl,?_⟩
  refine ⟨_,rfl,_,_,_,_,rfl,rfl,hp,rfl,_,rfl,_,rfl,_,_,_,_,rfl,rfl,hq,rfl,_,_,rfl,rfl,m2,_,_,rfl,rfl,?_⟩
  exact ⟨(by show 3 ≤ sizeLine; decide),k⟩
end
def ZcY:Sp:=fun vs H Q _ => ∃ x y:Int,vs = [.int x,.int y] ∧ x.natAbs ≤ 10 ^ 100 ∧ y.natAbs ≤ 10 ^ 100 ∧
  ∀ (t:Addr) (H':Hp) (u v:Int),Same H H' → H' t = some (.tup [.int (Int.gcd x y),.int u,.int v]) → (Int.gcd x y:Int) = x * u + y * v → u.natAbs ≤ 10 ^ 101 → v.natAbs ≤ 10 ^ 101 → Q (.ref t) H'
section
variable {P:Program} {w:World} {K:PySem.W.Frag} {mg:Str → Option Value} {base:Heap}
theorem sc_shares:FnScope ["one", "other", "upper", "lower", "following"] ["one", "other"] (Zag ZeR):=⟨rfl,rfl,rfl,by decide +kernel,rfl,by decide +kernel,by decide +kernel⟩
theorem Zin (h:Here K mg "shares" ZeR) (h_less_times:Has P w K mg base "less_times" 1 ["some", "factor", "others"] (ZcX K)):Has P w K mg base "shares" 2 ["one", "other"] ZcY:=by
  refine h.has (fun f fd F => F.binds fun _ _ _ _ _ _ us hl => by obtain ⟨_,_,rfl⟩:=Zdg hl; exact rfl) fun f fd F => F.ok sc_shares (fun vs H Q E h => ?_) (fun cdv A outer s H vs Q E hr h => ?_)
  · obtain ⟨_,_,rfl,_⟩:=h
    rfl
  obtain ⟨x,y,rfl,bx,bY,k⟩:=h
  have nd:=sc_shares.nd
  refine ⟨_,(Zad (Zas (i:=2) nd rfl (Or.inl rfl) (Zbs (Zaa (pv 0) (Zaa Zac (Zaa Zac Zab)))))
    (Zad (Zas (i:=3) nd rfl (Or.inl rfl) (Zbs (Zaa (pv 1) (Zaa Zac (Zaa Zac Zab)))))
    (Zad (ZbH PassesOwn.never (Zap ZdG (Zar Zaq (pv 3) Zac (fun _ _ => rfl)) Zac (Zan _)) (Zad (Zas (i:=4) nd rfl (Or.inl rfl) (Zam h_less_times hr (by rfl) (Zaa (pv 2) (Zaa (Zaj ZeL (Zar Zaq (pv 2) Zac (fun _ _ => rfl)) (Zar Zaq (pv 3) Zac (fun _ _ => rfl))) (Zaa (pv 3) Zab)))))
      (Zad (Zas (i:=2) nd rfl (Or.inl rfl) (pv 3))
      (Zae (Zas (i:=3) nd rfl (Or.inl rfl) (pv 4))))))
    (Zad (ZaC (Zap ZfY (Zar Zaq (pv 2) Zac (fun _ _ => rfl)) Zac (Zan _)) (Zae (Zai (Zam h_less_times hr (by rfl) (Zaa (Zbs (Zaa Zac (Zaa Zac (Zaa Zac Zab)))) (Zaa Zac (Zaa (pv 2) Zab)))))) Zao)
    (Zae (Zai (pv 2))))))),?_⟩
  refine ⟨_,rfl,(by show 3 ≤ sizeLine; decide),fun p0 hp0 => ?_⟩
  refine ⟨_,rfl,(by show 3 ≤ sizeLine; decide),fun p1 hp1 => ?_⟩
  have S0:Same H (upd H p0 (.tup [.int x,.int 1,.int 0])):=Zah hp0 _
  have S1:=S0.trans (Zah hp1 (.tup [.int y,.int 0,.int 1]))
  refine ⟨fun m σ H' => ∃ (p r:Addr) (f:Option V) (a u1 v1 b u2 v2:Int),m = b.natAbs ∧ σ = [some (.int x),some (.int y),some (.ref p),some (.ref r),f] ∧ Same H H' ∧ H' p = some (.tup [.int a,.int u1,.int v1]) ∧ H' r = some (.tup [.int b,.int u2,.int v2]) ∧ M1.Sh x y a u1 v1 b u2 v2,
    ⟨_,p0,p1,none,x,1,0,y,0,1,rfl,rfl,S1,by rw [Zat (Zav Zaf hp1)]; exact Zaf,Zaf,M1.Sh.start x y⟩,?_⟩
  rintro m σ H' ⟨p,r,f,a,u1,v1,b,u2,v2,rfl,rfl,S,hp,hr',I⟩
  have bd:=I.bound
  have lim:x.natAbs + 2 * y.natAbs + 1 + 1 ≤ 10 ^ 150:=by omega
  have lim0:=Nat.le_of_succ_le lim
  refine ⟨_,rfl,_,_,_,_,rfl,rfl,SqT.of hr',rfl,rfl,_,rfl,?_⟩
  refine Zdo (fun hb => ⟨_,fun _ _ h => h,?_⟩) (fun hb => ?_)
  · refine ⟨_,rfl,_,rfl,_,_,_,_,rfl,rfl,SqT.of hp,rfl,_,rfl,_,_,_,_,rfl,rfl,SqT.of hr',rfl,_,_,rfl,rfl,⟨hb,Nat.le_trans bd.2.2.2.1 lim0⟩,_,rfl,?_⟩
    have fd:=Nat.le_trans (M1.fdiv_small a hb) (Nat.le_trans (Nat.succ_le_succ bd.1) lim)
    refine ⟨p,r,a.fdiv b,a,u1,v1,b,u2,v2,rfl,SqT.of hp,SqT.of hr',Za6 fd (Nat.le_trans bd.2.2.2.1 lim0),Za6 fd (Nat.le_trans bd.2.2.2.2.1 lim0),Za6 fd (Nat.le_trans bd.2.2.2.2.2 lim0),fun t ht => ?_⟩
    refine ⟨_,rfl,_,rfl,?_⟩
    exact ⟨_,(by rw [M1.rest_eq]; exact M1.fmod_lt a hb),r,t,_,b,u2,v2,_,_,_,rfl,rfl,S.trans (Zah ht _),by rw [Zat (Zav hr' ht)]; exact hr',Zaf,I.turn hb⟩
  · subst hb
    obtain ⟨g1,g2⟩:=I.done
    refine ⟨_,rfl,_,_,_,_,rfl,rfl,SqT.of hp,rfl,_,_,rfl,rfl,_,rfl,?_⟩
    refine ZbI (fun hn => ?_) (fun hn => ?_)
    · refine ⟨(by show 3 ≤ sizeLine; decide),fun z hz => ?_⟩
      refine ⟨_,rfl,?_⟩
      refine ⟨z,p,1,0,0,0,a,u1,v1,rfl,SqT.of Zaf,SqT.of (by rw [Zat (Zav hp hz)]; exact hp),Za6 (by decide) (Nat.le_trans bd.1 lim0),Za6 (by decide) (Nat.le_trans bd.2.1 lim0),Za6 (by decide) (Nat.le_trans bd.2.2.1 lim0),fun t ht => ?_⟩
      have ed:(0:Int) - 1 * a = Int.gcd x y:=by omega
      refine k t _ (0 - 1 * u1) (0 - 1 * v1) ((S.trans (Zah hz _)).trans (Zah ht _)) (by rw [Zaf,ed]) ?_ (by omega) (by omega)
      rw [← ed,g2,Int.one_mul,Int.one_mul,Int.one_mul,Int.mul_sub,Int.mul_sub]
      omega
    · refine ⟨_,rfl,?_⟩
      have ed:a = Int.gcd x y:=by omega
      refine k p H' u1 v1 S (by rw [← ed]; exact hp) (by rw [← ed]; exact g2) (by omega) (by omega)
end
def ReA (CR:Addr) (p:Int) (H:Hp) (a:Addr):Prop:=∃ dx,H a = some (.ins CR dx (fsR p))
def ZgO (CR:Addr):Sp:=fun vs H Q _ => ∃ (x dx:Addr) (p:Int),vs = [.ref x,.int p] ∧ H x = some (.ins CR dx []) ∧ M2.Prm p ∧ p < 1000000 ∧ Q .non (upd H x (.ins CR dx (fsR p)))
section
variable {P:Program} {w:World} {K:PySem.W.Frag} {mg:Str → Option Value} {base:Heap}
theorem Zdi:FnScope ["self", "prime"] ["self", "prime"] (Zag Zbo):=⟨rfl,rfl,rfl,by decide +kernel,rfl,by decide +kernel,by decide +kernel⟩
theorem Zjr {CR:Addr} (h:HereI K CR "Rests.__init__" Zbo) (cl:Cls K CR) (nP:NoAttr K CR "prime") (h_is_whole:Has P w K mg base "is_whole" 1 ["thing"] Zdy) (h_is_prime:Has P w K mg base "is_prime" 1 ["number"] Zdz):HasI P w K mg base CR 2 ["self", "prime"] (ZgO CR):=by
  refine h.hasI (fun f fd F => F.binds fun _ _ _ _ _ _ us hl => by obtain ⟨_,_,rfl⟩:=Zdg hl; exact rfl) fun f fd F => F.ok Zdi (fun vs H Q E h => ?_) (fun cdv A outer s H vs Q E hr h => ?_)
  · obtain ⟨_,_,_,rfl,_⟩:=h
    rfl
  obtain ⟨x,dx,p,rfl,hx,hp,lp,k⟩:=h
  refine ⟨_,(Zad (ZaC (ZbW (ZaN (ZaD (Zam h_is_whole hr (by rfl) (Zaa (pv 1) Zab)))) (ZbF (ZaN (ZaD (Zam h_is_prime hr (by rfl) (Zaa (pv 1) Zab)))))).pt (Zae Zi8) Zao)
    (Zae (ZjU (pv 0) (pv 1) rfl))),?_⟩
  refine ⟨_,rfl,p,rfl,_,rfl,?_⟩
  refine ZbE ?_
  refine ⟨_,rfl,p,rfl,lp,fun _ => ⟨_,rfl,?_⟩,fun z => absurd hp z⟩
  refine ZbE ?_
  exact ⟨_,rfl,_,rfl,x,CR,dx,_,rfl,hx,cl,nP,(by show 0 < 1000; decide),k⟩
end
structure CN (K:PySem.W.Frag) (mg:Str → Option Value) (x:Str) (C:Addr):Prop where
  m:mg x = some (.ref C)
  c:PySem.W.isClsIn K C = true
  t:PySem.W.typeIn K (.ref C) = some (.type "type")
structure Rf (K:PySem.W.Frag) (mg:Str → Option Value) (CE cK cN cF cT cI cX cM cR:Addr):Prop where
  e:CN K mg "FrameError" CE
  eb:PySem.W.mroIn K CE (.type "BaseException") = some true
  k:CN K mg "NoKind" cK
  n:CN K mg "NoNumber" cN
  f:CN K mg "NoFit" cF
  t:CN K mg "NoTurn" cT
  i:CN K mg "NoInverse" cI
  x:CN K mg "NoText" cX
  m:CN K mg "NoName" cM
  r:CN K mg "NoRow" cR
  ve:mg "ValueError" = none
theorem Rf.cat {K:PySem.W.Frag} {mg:Str → Option Value} {CE cK cN cF cT cI cX cM cR:Addr} (R:Rf K mg CE cK cN cF cT cI cX cM cR):CatC K mg "FrameError" CE:=⟨R.e.m,R.e.t,R.eb,R.e.c⟩
def Zjs (K:PySem.W.Frag) (C:Addr):List Addr → Prop
  | [] => True
  | D :: r => (PySem.W.mroIn K C (.ref D) = some false ∧ C ≠ D) ∧ Zjs K C r
structure Rz (K:PySem.W.Frag) (mg:Str → Option Value) (x:Str) (CE C:Addr) (os:List Addr):Prop where
  c:ExcC K mg x C
  e:PySem.W.mroIn K C (.ref CE) = some true
  v:PySem.W.mroIn K C (.type "ValueError") = some true
  o:Zjs K C os
theorem CN.no {K:PySem.W.Frag} {mg:Str → Option Value} {x:Str} {C D:Addr} (n:CN K mg x D) (h:PySem.W.mroIn K C (.ref D) = some false ∧ C ≠ D):PySem.W.kitOne K (.ref C) (.ref D) = some false:=Zie n.c n.t h.1 h.2
def ZmG (m:Nat) (g:Nat → V):List V:=(List.range m).map g
theorem ZdZ {rs:List Addr} {i:Nat} {x:V} (h:(rs.map V.ref)[i]? = some x):∃ r,rs[i]? = some r ∧ x = .ref r:=by
  rw [List.getElem?_map] at h
  cases e:rs[i]? with
  | none => rw [e] at h; cases h
  | some r => rw [e] at h; exact ⟨r,rfl,(Option.some.inj h).symm⟩
def Rows (H:Hp) (rs:List Addr) (m:Nat) (g:Nat → Nat → V):Prop:=∀ (i:Nat) (r:Addr),rs[i]? = some r → H r = some (.lst (ZmG m (g i)))
structure Tb (H:Hp) (t:Addr) (rs:List Addr) (m:Nat) (g:Nat → Nat → V):Prop where
  l:H t = some (.lst (rs.map V.ref))
  r:Rows H rs m g
structure New (H:Hp) (rs:List Addr):Prop where
  nd:rs.Nodup
  no:∀ r ∈ rs,H r = none
theorem New.nil {H:Hp}:New H []:=⟨List.nodup_nil,fun _ h => nomatch h⟩
theorem New.snoc {H:Hp} {rs:List Addr} {r:Addr} (h:New H rs) (n:H r = none) (hr:r ∉ rs):New H (rs ++ [r]) :=
  ⟨by rw [List.nodup_append]; exact ⟨h.nd,by simp,fun a ha b hb => by rw [List.mem_singleton] at hb; subst hb; exact fun z => hr (z ▸ ha)⟩,fun x hx => by
    rcases List.mem_append.mp hx with hx | hx
    · exact h.no x hx
    · rw [List.mem_singleton.mp hx]; exact n⟩
theorem Rows.same {H H':Hp} {rs:List Addr} {m:Nat} {g:Nat → Nat → V} (h:Rows H rs m g) (S:Same H H'):Rows H' rs m g:=fun i r e => S _ _ (h i r e)
theorem Tb.same {H H':Hp} {t:Addr} {rs:List Addr} {m:Nat} {g:Nat → Nat → V} (h:Tb H t rs m g) (S:Same H H'):Tb H' t rs m g:=⟨S _ _ h.l,h.r.same S⟩
theorem Rows.snoc {H:Hp} {rs:List Addr} {r:Addr} {m:Nat} {g:Nat → Nat → V} (h:Rows H rs m g) (e:H r = some (.lst (ZmG m (g rs.length)))):Rows H (rs ++ [r]) m g:=fun i x hx => by
  rw [List.getElem?_append] at hx
  split at hx
  · exact h i x hx
  · rename_i hi
    have:i - rs.length = 0:=by
      cases q:i - rs.length with
      | zero => rfl
      | succ n => rw [q] at hx; simp at hx
    have hi2:i = rs.length:=by omega
    subst hi2
    simp at hx
    subst hx
    exact e
theorem Zio {l:List Addr} (h:l.Nodup) {i j:Nat} {a:Addr} (hi:l[i]? = some a) (hj:l[j]? = some a):i = j:=by
  obtain ⟨l1,e1⟩:=List.getElem?_eq_some_iff.mp hi
  obtain ⟨l2,e2⟩:=List.getElem?_eq_some_iff.mp hj
  have p:=List.pairwise_iff_getElem.mp h
  rcases Nat.lt_trichotomy i j with c | c | c
  · exact absurd (e1.trans e2.symm) (p i j l1 l2 c)
  · exact c
  · exact absurd (e2.trans e1.symm) (p j i l2 l1 c)
theorem New.out {H:Hp} {rs:List Addr} {a:Addr} {o:HO} (h:New H rs) (q:H a = some o):a ∉ rs:=fun m => by rw [h.no a m] at q; cases q
theorem ZkJ {n i:Nat} (h:i < n):ixN n ((i:Nat):Int) = some i:=by
  have:=Za4 (xs:=List.range n) (j:=i) (v:=i) (by simp [h])
  unfold atI at this
  rw [List.length_range] at this
  cases q:ixN n (i:Int) with
  | none => rw [q] at this; cases this
  | some j =>
    rw [q] at this
    simp only [Option.bind_some] at this
    have h2:=(List.getElem?_eq_some_iff.mp this).2
    simp at h2
    rw [h2]
def KdA (CF CR:Addr) (p:Int) (H:Hp) (k:Addr):Prop:=(p = 0 ∧ FrA CF H k) ∨ (M2.Prm p ∧ p < 1000000 ∧ ReA CR p H k)
theorem KdA.same {CF CR:Addr} {p:Int} {H H':Hp} {k:Addr} (h:KdA CF CR p H k) (S:Same H H'):KdA CF CR p H' k:=by
  rcases h with ⟨e,dx,h⟩ | ⟨e,l,dx,h⟩
  · exact .inl ⟨e,dx,S _ _ h⟩
  · exact .inr ⟨e,l,dx,S _ _ h⟩
def Ez (H:Hp) (p e:Int) (v:V):Prop:=(p = 0 ∧ ∃ t,v = .ref t ∧ H t = some (.tup [.int e,.int 1])) ∨ (0 < p ∧ v = .int e)
theorem Ez.same {H H':Hp} {p e:Int} {v:V} (h:Ez H p e v) (S:Same H H'):Ez H' p e v:=by
  rcases h with ⟨z,t,rfl,h⟩ | h
  · exact .inl ⟨z,t,rfl,S _ _ h⟩
  · exact .inr h
theorem Zip {ns:List Int} {i:Nat} (h:i < ns.length):atI (ns.map V.int) (i:Int) = some (.int ns[i]):=Za4 (by rw [List.getElem?_map,List.getElem?_eq_getElem h] <;> rfl)
def PK (p:Int):Prop:=p = 0 ∨ (M2.Prm p ∧ p < 1000000)
def Nu (H:Hp) (p:Int) (v:V):Prop:=(p = 0 ∧ ∃ t a b,v = .ref t ∧ H t = some (.tup [.int a,.int b]) ∧ Fc a b ∧ a.natAbs ≤ 10 ^ 60 ∧ b.natAbs ≤ 10 ^ 60) ∨ (0 < p ∧ ∃ x,v = .int x ∧ 0 ≤ x ∧ x < p)
theorem Nu.same {H H':Hp} {p:Int} {v:V} (h:Nu H p v) (S:Same H H'):Nu H' p v:=by
  rcases h with ⟨z,t,a,b,rfl,h,r⟩ | h
  · exact .inl ⟨z,t,a,b,rfl,S _ _ h,r⟩
  · exact .inr h
structure Ce (H:Hp) (c:Addr) (cs:List Int):Prop where
  l:H c = some (.lst (cs.map V.int))
  h1:1 ≤ cs.length
  h2:cs.length ≤ 66
  b:∀ i ∈ cs,Bits 1048576 i
theorem Ce.same {H H':Hp} {c:Addr} {cs:List Int} (h:Ce H c cs) (S:Same H H'):Ce H' c cs:=⟨S _ _ h.l,h.h1,h.h2,h.b⟩
def Off (D:List Addr) (H H':Hp):Prop:=∀ a o,a ∉ D → H a = some o → H' a = some o
theorem Off.same {D:List Addr} {H0 H H':Hp} (O:Off D H H') (S:Same H0 H) (n:∀ r ∈ D,H0 r = none):Same H0 H':=fun b o q => O b o (fun m => by rw [n b m] at q; cases q) (S _ _ q)
def NuEq (H:Hp) (p:Int) (x y:V):Prop:=(0 < p ∧ ∃ i,x = .int i ∧ y = .int i) ∨ (p = 0 ∧ ∃ s t a b,x = .ref s ∧ y = .ref t ∧ H s = some (.tup [.int a,.int b]) ∧ H t = some (.tup [.int a,.int b]))
theorem NuEq.same {H H':Hp} {p:Int} {x y:V} (h:NuEq H p x y) (S:Same H H'):NuEq H' p x y:=by
  rcases h with h | ⟨z,s,t,a,b,e1,e2,h1,h2⟩
  · exact .inl h
  · exact .inr ⟨z,s,t,a,b,e1,e2,S _ _ h1,S _ _ h2⟩
theorem Nu.eq {H:Hp} {p:Int} {x:V} (h:Nu H p x):NuEq H p x x:=by
  rcases h with ⟨z,t,a,b,e,h,_⟩ | ⟨z,i,e,_⟩
  · exact .inr ⟨z,t,t,a,b,e,e,h,h⟩
  · exact .inl ⟨z,i,e,e⟩
theorem Ez.eq {H:Hp} {p e:Int} {x y:V} (h:Ez H p e x) (h':Ez H p e y):NuEq H p x y:=by
  rcases h with ⟨z,t,e1,h1⟩ | ⟨z,e1⟩
  · rcases h' with ⟨_,t',e2,h2⟩ | ⟨z',_⟩
    · exact .inr ⟨z,t,t',_,_,e1,e2,h1,h2⟩
    · omega
  · rcases h' with ⟨z',_⟩ | ⟨_,e2⟩
    · omega
    · exact .inl ⟨z,_,e1,e2⟩
theorem Nu.kind {H:Hp} {p:Int} {x:V} (h:Nu H p x):(∃ i,x = .int i) ∨ ∃ a,x = .ref a:=by
  rcases h with ⟨_,t,_,_,e,_⟩ | ⟨_,i,e,_⟩
  · exact .inr ⟨t,e⟩
  · exact .inl ⟨i,e⟩
end My
namespace My
open PySem L2 PyProof.Rows
class Fd (α:Type) extends Lean.Grind.CommRing α where
  inv:α → α
  mul_inv:∀ a:α,a ≠ 0 → a * inv a = 1
  zne:(0:α) ≠ 1
instance:Fd Rat where
  inv:=Rat.inv
  mul_inv:=fun a h => Rat.mul_inv_cancel a h
  zne:=by decide
theorem bez:∀ a b:Nat,∃ u v:Int,a * u + b * v = (Nat.gcd a b:Int):=by
  intro a b
  induction a,b using Nat.gcd.induction with
  | H0 n => exact ⟨0,1,by simp⟩
  | H1 m n hm ih =>
    obtain ⟨u,v,e⟩:=ih
    refine ⟨v - (n / m:Nat) * u,u,?_⟩
    rw [Nat.gcd_rec,← e]
    have h:(n:Int) = m * (n / m:Nat) + (n % m:Nat):=by
      have:=Nat.div_add_mod n m
      exact_mod_cast this.symm
    rw [Int.mul_sub]
    conv => lhs; rw [h]
    rw [Int.add_mul]
    generalize ((n / m:Nat):Int) = q
    generalize ((n % m:Nat):Int) = r
    have e1:(m:Int) * (q * u) = m * q * u:=by rw [Int.mul_assoc]
    omega
structure PrN (p:Nat):Prop where
  pr:M2.Prm (p:Int)
  lt:p < 1000000
theorem PrN.two {p:Nat} (h:PrN p):2 ≤ p:=by have:=h.pr.1; omega
theorem PrN.nz {p:Nat} (h:PrN p):NeZero p:=⟨by have:=h.two; omega⟩
theorem Ziq {p:Nat} (h:PrN p):letI:=h.nz; ∀ a:Fin p,a ≠ 0 → ∃ b:Fin p,a * b = 1:=by
  letI:=h.nz
  intro a ha
  have h2:=h.two
  have nd:¬ (p:Int) ∣ (a.val:Int):=by
    rintro ⟨k,hk⟩
    have hv:a.val ≠ 0:=fun z => ha (Fin.ext (by simpa using z))
    have hl:=a.isLt
    have hk0:0 < k:=by
      rcases Int.lt_or_le 0 k with c | c
      · exact c
      · have:(p:Int) * k ≤ 0:=Int.mul_nonpos_of_nonneg_of_nonpos (by omega) c
        omega
    have:(p:Int) * 1 ≤ p * k:=Int.mul_le_mul_of_nonneg_left (by omega) (by omega)
    omega
  have g:=M2.prm_gcd h.pr nd
  obtain ⟨u,v,e⟩:=bez a.val p
  have g':Nat.gcd a.val p = 1:=by
    have:Int.gcd (a.val:Int) (p:Int) = Nat.gcd a.val p:=rfl
    omega
  rw [g'] at e
  refine ⟨⟨(u % p).toNat,?_⟩,?_⟩
  · have:=Int.emod_lt_of_pos u (show 0 < (p:Int) by omega)
    have:=Int.emod_nonneg u (show (p:Int) ≠ 0 by omega)
    omega
  · refine Fin.ext ?_
    rw [Fin.val_mul]
    have e0:=Int.emod_nonneg u (show (p:Int) ≠ 0 by omega)
    have e1:((a.val * (u % p).toNat % p:Nat):Int) = ((1:Nat):Int):=by
      rw [Int.natCast_emod,Int.natCast_mul,Int.toNat_of_nonneg e0,Int.mul_emod,Int.emod_emod_of_dvd _ (Int.dvd_refl _),← Int.mul_emod]
      have:(a.val:Int) * u = 1 - p * v:=by omega
      rw [this,Int.sub_emod,Int.mul_emod_right]
      simp
      exact Int.emod_eq_of_lt (by omega) (by omega)
    have e2:a.val * (u % p).toNat % p = 1:=by exact_mod_cast e1
    have e3:(1:Fin p).val = 1:=by
      show 1 % p = 1
      exact Nat.mod_eq_of_lt h2
    rw [e3]
    exact e2
@[reducible] noncomputable def finFd {p:Nat} (h:PrN p):Fd (Fin p) :=
  letI:=h.nz
  { (inferInstance:Lean.Grind.CommRing (Fin p)) with
    inv:=fun a => if ha:a ≠ 0 then Classical.choose (Ziq h a ha) else 0
    mul_inv:=fun a ha => by
      simp only [dif_pos ha]
      exact Classical.choose_spec (Ziq h a ha)
    zne:=fun z => by
      have:=congrArg Fin.val z
      have h2:=h.two
      have e3:(1:Fin p).val = 1:=by
        show 1 % p = 1
        exact Nat.mod_eq_of_lt h2
      have e4:(0:Fin p).val = 0:=by simp
      rw [e3,e4] at this
      cases this }
inductive KX where
  | q
  | r (p:Nat) (h:PrN p)
@[reducible] def KX.F:KX → Type
  | .q => Rat
  | .r p _ => Fin p
noncomputable instance (κ:KX):Fd κ.F:=match κ with
  | .q => inferInstanceAs (Fd Rat)
  | .r _ h => finFd h
def KX.P:KX → Int
  | .q => 0
  | .r p _ => p
def KX.D:(κ:KX) → κ.F → PyData
  | .q,x => .tuple [.int x.num,.int x.den]
  | .r _ _,x => .int x.val
def NR (κ:KX) (H:Hp) (v:V) (x:κ.F):Prop:=match κ with
  | .q => ∃ a,v = .ref a ∧ H a = some (.tup [.int x.num,.int x.den])
  | .r _ _ => v = .int x.val
theorem NR.same {κ:KX} {H H':Hp} {v:V} {x:κ.F} (h:NR κ H v x) (S:Same H H'):NR κ H' v x:=by
  cases κ with
  | q => obtain ⟨a,e,h⟩:=h; exact ⟨a,e,S _ _ h⟩
  | r p hp => exact h
theorem NR.off {κ:KX} {H H':Hp} {t:Addr} {ys:List V} {v:V} {x:κ.F} (h:NR κ H v x) (ht:H t = some (.lst ys)) (O:Off [t] H H'):NR κ H' v x:=by
  cases κ with
  | q =>
    obtain ⟨a,e,h⟩:=h
    refine ⟨a,e,O _ _ (fun m => ?_) h⟩
    rw [List.mem_singleton.mp m,ht] at h
    cases h
  | r p hp => exact h
theorem Zb8 {H:Hp} {i:Int}:Fl H (.int i) (.int i):=.inr (.inr (.inl ⟨i,rfl,rfl⟩))
theorem NR.rp {κ:KX} {H:Hp} {v:V} {x:κ.F} (h:NR κ H v x):Rp H 1 v (κ.D x):=by
  cases κ with
  | q =>
    obtain ⟨a,rfl,h⟩:=h
    exact ZfF h (.cons Zb8 (.cons Zb8 .nil))
  | r p hp =>
    have h:v = .int x.val:=h
    subst h
    exact .inl Zb8
def Bd (κ:KX) (n m:Nat) (x:κ.F):Prop:=match κ with
  | .q => Bits n x.num ∧ Bits m (x.den:Int)
  | .r _ _ => True
theorem Zir {n d N D:Int} (fc:Fc n d) (hD:0 < D) (e:n * D = N * d):(Rat.divInt N D).num = n ∧ ((Rat.divInt N D).den:Int) = d:=by
  have hd:=fc.pos
  have q0:∃ q:Rat,q.num = n ∧ (q.den:Int) = d:=by
    refine ⟨⟨n,d.toNat,by omega,?_⟩,rfl,by show ((d.toNat:Nat):Int) = d; omega⟩
    have:=fc.cop
    rw [Nat.coprime_iff_gcd_eq_one]
    have e:Int.gcd n d = Nat.gcd n.natAbs d.natAbs:=rfl
    have e2:d.natAbs = d.toNat:=by omega
    rw [← e2]
    omega
  obtain ⟨q,e1,e2⟩:=q0
  have:Rat.divInt N D = q:=by
    rw [← Rat.num_divInt_den q,e1,e2,Rat.divInt_eq_divInt_iff (by omega) (by omega)]
    exact e.symm
  rw [this]
  exact ⟨e1,e2⟩
theorem ZaU (x:Rat):Fc x.num x.den:=⟨by have:=x.den_nz; omega,by
  have:=x.reduced
  rw [Nat.coprime_iff_gcd_eq_one] at this
  exact this⟩
theorem Zis {x y:Rat} {n d:Int} (fc:Fc n d) (e:n * ((x.den:Int) * y.den) = (x.num * y.den + y.num * x.den) * d):(x + y).num = n ∧ ((x + y).den:Int) = d:=by
  have hx:=(ZaU x).pos
  have hy:=(ZaU y).pos
  have:x + y = Rat.divInt (x.num * y.den + y.num * x.den) ((x.den:Int) * y.den):=by
    rw [← Rat.divInt_add_divInt _ _ (by omega) (by omega),Rat.num_divInt_den,Rat.num_divInt_den]
  rw [this]
  exact Zir fc (Int.mul_pos hx hy) e
theorem Zit {x y:Rat} {n d:Int} (fc:Fc n d) (e:n * ((x.den:Int) * y.den) = (x.num * y.num) * d):(x * y).num = n ∧ ((x * y).den:Int) = d:=by
  have hx:=(ZaU x).pos
  have hy:=(ZaU y).pos
  have:x * y = Rat.divInt (x.num * y.num) ((x.den:Int) * y.den):=by
    rw [← Rat.divInt_mul_divInt,Rat.num_divInt_den,Rat.num_divInt_den]
  rw [this]
  exact Zir fc (Int.mul_pos hx hy) e
end My
namespace My
open PySem L2 PyProof.Rows
def Zd0 (K:PySem.W.Frag) (CF:Addr):Sp:=fun vs H Q _ => ∃ (s p q:Addr) (a1 b1 a2 b2:Int),vs = [.ref s,.ref p,.ref q] ∧ FrA CF H s ∧ SqT K H p [.int a1,.int b1] ∧ SqT K H q [.int a2,.int b2] ∧ Fc a1 b1 ∧ Fc a2 b2 ∧
  Bits 1000000 a1 ∧ Bits 4000 b1 ∧ Bits 1000000 a2 ∧ Bits 4000 b2 ∧
  ∀ (t:Addr) (H':Hp) (x y:Int),Same H H' → H' t = some (.tup [.int x,.int y]) → H t = none → Fc x y → x * (b1 * b2) = (a1 * b2 + a2 * b1) * y → Q (.ref t) H'
section
variable {P:Program} {w:World} {K:PySem.W.Frag} {mg:Str → Option Value} {base:Heap}
theorem sc_Fractions_plusG:FnScope ["self", "one", "other", "common", "ahead", "top", "left"] ["self", "one", "other"] (Zag Zbm):=⟨rfl,rfl,rfl,by decide +kernel,rfl,by decide +kernel,by decide +kernel⟩
theorem Ziu {CF:Addr} (h:HereM K CF "plus" "Fractions.plus" Zbm) (h_divisor:Has P w K mg base "divisor" 1 ["one", "other"] ZaG):HasM P w K mg base CF "plus" 2 ["self", "one", "other"] [] (Zd0 K CF):=by
  refine h.hasM (fun f fd F => F.binds fun _ _ _ _ _ _ us hl => by obtain ⟨_,_,_,rfl⟩:=Zdv hl; exact rfl) fun f fd F => F.ok sc_Fractions_plusG (fun vs H Q E h => ?_) (fun cdv A outer s H vs Q E hr h => ?_)
  · obtain ⟨_,_,_,_,_,_,_,rfl,_⟩:=h
    rfl
  obtain ⟨sf,p,q,a1,b1,a2,b2,rfl,_,hp,hq,f1,f2,la1,lb1,la2,lb2,k⟩:=h
  have nd:=sc_Fractions_plusG.nd
  refine ⟨_,(Zad (Zas (i:=3) nd rfl (Or.inl rfl) (Zam h_divisor hr (by rfl) (Zaa (Zar Zaq (pv 1) Zac (fun _ _ => rfl)) (Zaa (Zar Zaq (pv 2) Zac (fun _ _ => rfl)) Zab))))
    (Zad (Zas (i:=4) nd rfl (Or.inl rfl) (Zaj Zbv (Zar Zaq (pv 1) Zac (fun _ _ => rfl)) (pv 3)))
    (Zad (Zas (i:=5) nd rfl (Or.inl rfl) (Zaj ZaP (Zaj Zaz (Zar Zaq (pv 1) Zac (fun _ _ => rfl)) (Zaj Zbv (Zar Zaq (pv 2) Zac (fun _ _ => rfl)) (pv 3))) (Zaj Zaz (Zar Zaq (pv 2) Zac (fun _ _ => rfl)) (pv 4))))
    (Zad (Zas (i:=6) nd rfl (Or.inl rfl) (Zam h_divisor hr (by rfl) (Zaa (pv 5) (Zaa (pv 3) Zab))))
    (Zae (Zai (Zbs (Zaa (Zaj Zbv (pv 5) (pv 6)) (Zaa (Zaj Zaz (pv 4) (Zaj Zbv (Zar Zaq (pv 2) Zac (fun _ _ => rfl)) (pv 6))) Zab))))))))),?_⟩
  have hb1:=f1.pos
  have hb2:=f2.pos
  have hg:=M3.gcd_ne (a:=b1) (b:=b2) (by omega)
  have gl:Int.gcd b1 b2 ≤ b2.natAbs:=Nat.le_of_dvd (by omega) (Int.natAbs_dvd_natAbs.mpr (Int.gcd_dvd_right b1 b2))
  have hg1:(Int.gcd b1 b2:Int) ≠ 0 ∧ Bits 4000 (Int.gcd b1 b2:Int):=⟨by omega,lb2.le (by rw [Int.natAbs_natCast]; exact gl)⟩
  have d1:=M3.fdiv_le (Int.gcd_dvd_left b1 b2) hg1.1
  have d2:=M3.fdiv_le (Int.gcd_dvd_right b1 b2) hg1.1
  refine ⟨_,rfl,_,_,_,_,rfl,rfl,hp,rfl,_,rfl,_,_,_,_,rfl,rfl,hq,rfl,b1,b2,rfl,?_⟩
  refine ⟨_,rfl,_,_,_,_,rfl,rfl,hp,rfl,_,rfl,_,_,rfl,rfl,hg1,?_⟩
  refine ⟨_,rfl,_,_,_,_,rfl,rfl,hp,rfl,_,rfl,_,_,_,_,rfl,rfl,hq,rfl,_,rfl,_,_,rfl,rfl,hg1,_,_,rfl,rfl,la1.mulG (lb2.le d2),_,rfl,_,_,_,_,rfl,rfl,hq,rfl,_,rfl,_,_,rfl,rfl,la2.mulG (lb1.le d1),_,_,rfl,rfl,?_⟩
  refine ⟨_,rfl,_,rfl,_,_,rfl,?_⟩
  obtain ⟨o1,o2,o3,o4⟩:=M3.plus_ok hb1 hb2 f1.cop f2.cop rfl
  have ll:Int.gcd (a1 * b2.fdiv (Int.gcd b1 b2) + a2 * b1.fdiv (Int.gcd b1 b2)) (Int.gcd b1 b2) ≤ Int.gcd b1 b2:=Nat.le_of_dvd (by omega) (Int.ofNat_dvd.mp (Int.gcd_dvd_right (a1 * b2.fdiv (Int.gcd b1 b2) + a2 * b1.fdiv (Int.gcd b1 b2)) (Int.gcd b1 b2)))
  have hl1:(Int.gcd (a1 * b2.fdiv (Int.gcd b1 b2) + a2 * b1.fdiv (Int.gcd b1 b2)) (Int.gcd b1 b2):Int) ≠ 0 ∧ Bits 4000 (Int.gcd (a1 * b2.fdiv (Int.gcd b1 b2) + a2 * b1.fdiv (Int.gcd b1 b2)) (Int.gcd b1 b2):Int):=⟨by have:=M3.gcd_ne (a:=a1 * b2.fdiv (Int.gcd b1 b2) + a2 * b1.fdiv (Int.gcd b1 b2)) (b:=(Int.gcd b1 b2:Int)) (by omega); omega,lb2.le (by rw [Int.natAbs_natCast]; exact Nat.le_trans ll gl)⟩
  have d3:=M3.fdiv_le (Int.gcd_dvd_left (a1 * b2.fdiv (Int.gcd b1 b2) + a2 * b1.fdiv (Int.gcd b1 b2)) (Int.gcd b1 b2)) hl1.1
  have d4:=M3.fdiv_le (Int.dvd_trans (Int.gcd_dvd_right (a1 * b2.fdiv (Int.gcd b1 b2) + a2 * b1.fdiv (Int.gcd b1 b2)) (Int.gcd b1 b2)) (Int.gcd_dvd_right b1 b2)) hl1.1
  refine ⟨_,rfl,_,rfl,_,_,rfl,rfl,hl1,_,rfl,_,rfl,_,_,_,_,rfl,rfl,hq,rfl,_,rfl,_,_,rfl,rfl,hl1,_,_,rfl,rfl,((lb1.le d1).up (by decide)).mulG (lb2.le d4),(by show 2 ≤ sizeLine; decide),fun t ht' => ?_⟩
  exact k t _ _ _ (Zah ht' _) Zaf ht' ⟨o2,o3⟩ o4
end
def Zex (K:PySem.W.Frag) (CF:Addr):Sp:=fun vs H Q _ => ∃ (s p q:Addr) (a1 b1 a2 b2:Int),vs = [.ref s,.ref p,.ref q] ∧ FrA CF H s ∧ SqT K H p [.int a1,.int b1] ∧ SqT K H q [.int a2,.int b2] ∧ Fc a1 b1 ∧ Fc a2 b2 ∧
  Bits 1000000 a1 ∧ Bits 4000 b1 ∧ Bits 1000000 a2 ∧ Bits 4000 b2 ∧
  ∀ (t:Addr) (H':Hp) (x y:Int),Same H H' → H' t = some (.tup [.int x,.int y]) → H t = none → Fc x y → x * (b1 * b2) = (a1 * a2) * y → Q (.ref t) H'
section
variable {P:Program} {w:World} {K:PySem.W.Frag} {mg:Str → Option Value} {base:Heap}
theorem sc_Fractions_timesG:FnScope ["self", "one", "other", "falling", "rising", "top"] ["self", "one", "other"] (Zag Zbb):=⟨rfl,rfl,rfl,by decide +kernel,rfl,by decide +kernel,by decide +kernel⟩
theorem Zhp {CF:Addr} (h:HereM K CF "times" "Fractions.times" Zbb) (h_divisor:Has P w K mg base "divisor" 1 ["one", "other"] ZaG):HasM P w K mg base CF "times" 2 ["self", "one", "other"] [] (Zex K CF):=by
  refine h.hasM (fun f fd F => F.binds fun _ _ _ _ _ _ us hl => by obtain ⟨_,_,_,rfl⟩:=Zdv hl; exact rfl) fun f fd F => F.ok sc_Fractions_timesG (fun vs H Q E h => ?_) (fun cdv A outer s H vs Q E hr h => ?_)
  · obtain ⟨_,_,_,_,_,_,_,rfl,_⟩:=h
    rfl
  obtain ⟨sf,p,q,a1,b1,a2,b2,rfl,_,hp,hq,f1,f2,la1,lb1,la2,lb2,k⟩:=h
  have nd:=sc_Fractions_timesG.nd
  refine ⟨_,(Zad (Zas (i:=3) nd rfl (Or.inl rfl) (Zam h_divisor hr (by rfl) (Zaa (Zar Zaq (pv 1) Zac (fun _ _ => rfl)) (Zaa (Zar Zaq (pv 2) Zac (fun _ _ => rfl)) Zab))))
    (Zad (Zas (i:=4) nd rfl (Or.inl rfl) (Zam h_divisor hr (by rfl) (Zaa (Zar Zaq (pv 2) Zac (fun _ _ => rfl)) (Zaa (Zar Zaq (pv 1) Zac (fun _ _ => rfl)) Zab))))
    (Zad (Zas (i:=5) nd rfl (Or.inl rfl) (Zaj Zaz (Zaj Zbv (Zar Zaq (pv 1) Zac (fun _ _ => rfl)) (pv 3)) (Zaj Zbv (Zar Zaq (pv 2) Zac (fun _ _ => rfl)) (pv 4))))
    (Zae (Zai (Zbs (Zaa (pv 5) (Zaa (Zaj Zaz (Zaj Zbv (Zar Zaq (pv 1) Zac (fun _ _ => rfl)) (pv 4)) (Zaj Zbv (Zar Zaq (pv 2) Zac (fun _ _ => rfl)) (pv 3))) Zab)))))))),?_⟩
  have hb1:=f1.pos
  have hb2:=f2.pos
  have hf:=M3.gcd_ne (a:=a1) (b:=b2) (by omega)
  have hg:=M3.gcd_ne (a:=a2) (b:=b1) (by omega)
  have gf:Int.gcd a1 b2 ≤ b2.natAbs:=Nat.le_of_dvd (Zim hb2) (Int.natAbs_dvd_natAbs.mpr (Int.gcd_dvd_right a1 b2))
  have gg:Int.gcd a2 b1 ≤ b1.natAbs:=Nat.le_of_dvd (Zim hb1) (Int.natAbs_dvd_natAbs.mpr (Int.gcd_dvd_right a2 b1))
  have hf1:(Int.gcd a1 b2:Int) ≠ 0 ∧ Bits 4000 (Int.gcd a1 b2:Int):=⟨by omega,lb2.le (by rw [Int.natAbs_natCast]; exact gf)⟩
  have hg1:(Int.gcd a2 b1:Int) ≠ 0 ∧ Bits 4000 (Int.gcd a2 b1:Int):=⟨by omega,lb1.le (by rw [Int.natAbs_natCast]; exact gg)⟩
  have d1:=M3.fdiv_le (Int.gcd_dvd_left a1 b2) hf1.1
  have d2:=M3.fdiv_le (Int.gcd_dvd_right a1 b2) hf1.1
  have d3:=M3.fdiv_le (Int.gcd_dvd_left a2 b1) hg1.1
  have d4:=M3.fdiv_le (Int.gcd_dvd_right a2 b1) hg1.1
  refine ⟨_,rfl,_,_,_,_,rfl,rfl,hp,rfl,_,rfl,_,_,_,_,rfl,rfl,hq,rfl,a1,b2,rfl,?_⟩
  refine ⟨_,rfl,_,_,_,_,rfl,rfl,hq,rfl,_,rfl,_,_,_,_,rfl,rfl,hp,rfl,a2,b1,rfl,?_⟩
  refine ⟨_,rfl,_,_,_,_,rfl,rfl,hp,rfl,_,rfl,_,_,rfl,rfl,hf1,_,rfl,_,_,_,_,rfl,rfl,hq,rfl,_,rfl,_,_,rfl,rfl,hg1,_,_,rfl,rfl,(la1.le d1).mulT (la2.le d3),?_⟩
  refine ⟨_,rfl,_,rfl,_,_,_,_,rfl,rfl,hp,rfl,_,rfl,_,_,rfl,rfl,hg1,_,rfl,_,_,_,_,rfl,rfl,hq,rfl,_,rfl,_,_,rfl,rfl,hf1,_,_,rfl,rfl,((lb1.le d4).up (by decide)).mulG (lb2.le d2),(by show 2 ≤ sizeLine; decide),fun t ht' => ?_⟩
  obtain ⟨o2,o3,o4⟩:=M3.times_ok hb1 hb2 f1.cop f2.cop
  exact k t _ _ _ (Zah ht' _) Zaf ht' ⟨o2,o3⟩ o4
end
def Zey (CR:Addr) (g:Int → Int → Int):Sp:=fun vs H Q _ => ∃ (s:Addr) (p a b:Int),vs = [.ref s,.int a,.int b] ∧ ReA CR p H s ∧ 2 ≤ p ∧ a.natAbs ≤ 10 ^ 150 ∧ b.natAbs ≤ 10 ^ 150 ∧ Q (.int (g a b % p)) H
section
variable {P:Program} {w:World} {K:PySem.W.Frag} {mg:Str → Option Value} {base:Heap}
theorem Ze1:FnScope ["self", "one", "other"] ["self", "one", "other"] (Zag Zck):=⟨rfl,rfl,rfl,by decide +kernel,rfl,by decide +kernel,by decide +kernel⟩
theorem Zjt {CR:Addr} (h:HereM K CR "plus" "Rests.plus" Zck) (cl:Cls K CR) (nP:NoAttr K CR "prime"):HasM P w K mg base CR "plus" 1 ["self", "one", "other"] [] (Zey CR fun a b => a + b):=by
  refine h.hasM (fun f fd F => F.binds fun _ _ _ _ _ _ us hl => by obtain ⟨_,_,_,rfl⟩:=Zdv hl; exact rfl) fun f fd F => F.ok Ze1 (fun vs H Q E h => ?_) (fun cdv A outer s H vs Q E hr h => ?_)
  · obtain ⟨_,_,_,_,rfl,_⟩:=h
    rfl
  obtain ⟨sr,p,a,b,rfl,⟨dx,hs⟩,h2,la,lb,k⟩:=h
  refine ⟨_,(Zae (Zai (Zaj ZaQ (Zaj ZaP (pv 1) (pv 2)) (Zbj (pv 0) rfl)))),?_⟩
  refine ⟨_,rfl,_,rfl,_,_,rfl,rfl,_,rfl,sr,CR,dx,_,_,rfl,hs,cl,nP,Zbk p,_,_,rfl,rfl,(show p ≠ 0 by omega),?_⟩
  show Q (V.int ((a + b).fmod p)) _
  rw [Int.fmod_eq_emod_of_nonneg _ (by omega)]
  exact k
end
section
variable {P:Program} {w:World} {K:PySem.W.Frag} {mg:Str → Option Value} {base:Heap}
theorem Zek:FnScope ["self", "one", "other"] ["self", "one", "other"] (Zag Zb3):=⟨rfl,rfl,rfl,by decide +kernel,rfl,by decide +kernel,by decide +kernel⟩
theorem Ziv {CR:Addr} (h:HereM K CR "times" "Rests.times" Zb3) (cl:Cls K CR) (nP:NoAttr K CR "prime"):HasM P w K mg base CR "times" 1 ["self", "one", "other"] [] (Zey CR fun a b => a * b):=by
  refine h.hasM (fun f fd F => F.binds fun _ _ _ _ _ _ us hl => by obtain ⟨_,_,_,rfl⟩:=Zdv hl; exact rfl) fun f fd F => F.ok Zek (fun vs H Q E h => ?_) (fun cdv A outer s H vs Q E hr h => ?_)
  · obtain ⟨_,_,_,_,rfl,_⟩:=h
    rfl
  obtain ⟨sr,p,a,b,rfl,⟨dx,hs⟩,h2,la,lb,k⟩:=h
  refine ⟨_,(Zae (Zai (Zaj ZaQ (Zaj Zaz (pv 1) (pv 2)) (Zbj (pv 0) rfl)))),?_⟩
  refine ⟨_,rfl,_,rfl,_,_,rfl,rfl,Za6 la lb,_,rfl,sr,CR,dx,_,_,rfl,hs,cl,nP,Zbk p,_,_,rfl,rfl,(show p ≠ 0 by omega),?_⟩
  show Q (V.int ((a * b).fmod p)) _
  rw [Int.fmod_eq_emod_of_nonneg _ (by omega)]
  exact k
end
theorem Zmi {t b:Int} (hb:b ≠ 0):∃ c:Int,c = (if b < 0 then -(Int.gcd t b:Int) else (Int.gcd t b:Int)) ∧ c ≠ 0 ∧ c.natAbs ≤ b.natAbs ∧ Fc (t.fdiv c) (b.fdiv c) ∧ t.fdiv c * b = t * b.fdiv c ∧ (t.fdiv c).natAbs ≤ t.natAbs ∧ (b.fdiv c).natAbs ≤ b.natAbs:=by
  have hg:=M3.gcd_ne (a:=t) hb
  have gl:Int.gcd t b ≤ b.natAbs:=Nat.le_of_dvd (by omega) (Int.natAbs_dvd_natAbs.mpr (Int.gcd_dvd_right t b))
  by_cases h:b < 0
  · refine ⟨-(Int.gcd t b:Int),by rw [if_pos h],by omega,by omega,?_⟩
    have e1:t.fdiv (-(Int.gcd t b:Int)) = (-t).fdiv (Int.gcd t b):=by rw [← Int.neg_fdiv_neg,Int.neg_neg]
    have e2:b.fdiv (-(Int.gcd t b:Int)) = (-b).fdiv (Int.gcd t b):=by rw [← Int.neg_fdiv_neg,Int.neg_neg]
    have e3:Int.gcd t b = Int.gcd (-t) (-b):=by rw [Int.neg_gcd,Int.gcd_neg]
    obtain ⟨l1,l2,l3,l4,l5⟩:=M3.low (t:=-t) (b:=-b) (by omega)
    rw [e1,e2,e3]
    refine ⟨⟨l2,l1⟩,?_,by omega,by omega⟩
    rw [Int.mul_neg,Int.neg_mul] at l3
    exact Int.neg_inj.mp l3
  · refine ⟨(Int.gcd t b:Int),by rw [if_neg h],by omega,by omega,?_⟩
    obtain ⟨l1,l2,l3,l4,l5⟩:=M3.low (t:=t) (b:=b) (by omega)
    exact ⟨⟨l2,l1⟩,l3,l4,l5⟩
def ZbU (cN:Addr):Sp:=fun vs H Q E => ∃ (s:Addr) (t b:Int),vs = [.ref s,.int t,.int b] ∧ b.natAbs ≤ 10 ^ 150 ∧ (b = 0 → E (.ref cN) none H) ∧
  (b ≠ 0 → ∀ (r:Addr) (x y:Int),H r = none → Fc x y → x * b = t * y → x.natAbs ≤ t.natAbs → y.natAbs ≤ b.natAbs → Q (.ref r) (upd H r (.tup [.int x,.int y])))
section
variable {P:Program} {w:World} {K:PySem.W.Frag} {mg:Str → Option Value} {base:Heap}
theorem sc_Fractions_number:FnScope ["self", "top", "bottom", "common"] ["self", "top", "bottom"] (Zag ZaB):=⟨rfl,rfl,rfl,by decide +kernel,rfl,by decide +kernel,by decide +kernel⟩
theorem Zd1 {cN:Addr} {f T:Addr} {fd:FuncData} {items:Array Value} (F:FunD K "number" "Fractions.number" ZaB f fd T items) (c:ExcC K mg "NoNumber" cN) (h_divisor:Has P w K mg base "divisor" 1 ["one", "other"] ZaG):FnOk P w K mg base (CXx P w) 2 f fd ["self", "top", "bottom"] (ZbU cN):=by
  refine F.okx sc_Fractions_number (fun vs H Q E h => ?_) (fun cdv A outer s H vs Q E hr h => ?_)
  · obtain ⟨_,_,_,rfl,_⟩:=h
    rfl
  obtain ⟨sf,t,b,rfl,lb,k0,k⟩:=h
  have nd:=sc_Fractions_number.nd
  refine ⟨_,(Zad (ZaC (Zap Zbi (pv 2) Zac (Zan _)) (Zae (ZcW c ZfB rfl (by rfl) (Zaa ZdF Zab))) Zao)
    (Zad (Zas (i:=3) nd rfl (Or.inl rfl) (Zam h_divisor hr (by rfl) (Zaa (pv 1) (Zaa (pv 2) Zab))))
    (Zad (ZaC (Zap ZfY (pv 2) Zac (Zan _)) (Zae (Zas (i:=3) nd rfl (Or.inl rfl) (ZeH ZcR (pv 3)))) Zao)
    (Zae (Zai (Zbs (Zaa (Zaj ZeL (pv 1) (pv 3)) (Zaa (Zaj ZeL (pv 2) (pv 3)) Zab)))))))),?_⟩
  refine ⟨_,rfl,rfl,_,rfl,?_⟩
  refine ZbD (fun z => ⟨(by show 1 ≤ 1000; decide),k0 z⟩) (fun hb => ?_)
  refine ⟨_,rfl,_,rfl,t,b,rfl,?_⟩
  obtain ⟨c,ec,c0,cl,fc,e,l1,l2⟩:=Zmi (t:=t) hb
  refine ⟨_,rfl,_,_,rfl,rfl,_,rfl,?_⟩
  refine ZbI (fun hn => ?_) (fun hn => ?_)
  · refine ⟨_,rfl,_,rfl,?_⟩
    have ec':c = -(Int.gcd t b:Int):=by rw [ec,if_pos hn]
    refine ⟨_,rfl,_,rfl,_,_,rfl,rfl,(by rw [← ec']; exact ⟨c0,by omega⟩),_,rfl,_,rfl,_,_,rfl,rfl,(by rw [← ec']; exact ⟨c0,by omega⟩),(by show 2 ≤ sizeLine; decide),fun r hr' => ?_⟩
    rw [← ec']
    exact k hb r _ _ hr' fc e l1 l2
  · have ec':c = (Int.gcd t b:Int):=by rw [ec,if_neg hn]
    refine ⟨_,rfl,_,rfl,_,_,rfl,rfl,(by rw [← ec']; exact ⟨c0,by omega⟩),_,rfl,_,rfl,_,_,rfl,rfl,(by rw [← ec']; exact ⟨c0,by omega⟩),(by show 2 ≤ sizeLine; decide),fun r hr' => ?_⟩
    rw [← ec']
    exact k hb r _ _ hr' fc e l1 l2
theorem Zhq {CF cN:Addr} {tk:Tok} (h:HereD K CF "number" "Fractions.number" ZaB #[.int 1 tk]) (c:ExcC K mg "NoNumber" cN) (h_divisor:Has P w K mg base "divisor" 1 ["one", "other"] ZaG):HasMX P w K mg base CF "number" 2 ["self", "top", "bottom"] [] (ZbU cN) :=
  h.hasMX (ds:=[]) .nil (fun f fd T F => F.binds fun _ _ _ _ _ _ us hl => by obtain ⟨_,_,_,rfl⟩:=Zdv (show us.length = 3 by simpa using hl); exact ⟨_,rfl,rfl⟩) fun f fd T F => Zd1 F c h_divisor
theorem Zgc {CF cN:Addr} {tk:Tok} (h:HereD K CF "number" "Fractions.number" ZaB #[.int 1 tk]) (c:ExcC K mg "NoNumber" cN) (h_divisor:Has P w K mg base "divisor" 1 ["one", "other"] ZaG):HasMX P w K mg base CF "number" 2 ["self", "top", "bottom"] [.int 1] (ZbU cN) :=
  h.hasMX (ds:=[.int 1 tk]) (.cons ⟨_,rfl⟩ .nil) (fun f fd T F => F.binds fun _ _ _ _ _ _ us hl => by obtain ⟨_,_,rfl⟩:=Zdg (show us.length = 2 by simpa using hl); exact ⟨_,rfl,rfl⟩) fun f fd T F => Zd1 F c h_divisor
end
theorem Zmj {p t b u v r:Int} (hp:2 ≤ p) (h:(1:Int) = b * u + p * v) (hr:r = t * u % p):0 ≤ r ∧ r < p ∧ p ∣ r * b - t:=by
  subst hr
  refine ⟨Int.emod_nonneg _ (by omega),Int.emod_lt_of_pos _ (by omega),?_⟩
  have e:=Int.emod_add_mul_ediv (t * u) p
  have e1:t * u % p = t * u - p * (t * u / p):=by omega
  refine ⟨-(t * v) - (t * u / p) * b,?_⟩
  rw [e1]
  have e2:t = t * b * u + t * p * v:=by
    have:=congrArg (t * ·) h
    simp only [Int.mul_one,Int.mul_add] at this
    rw [Int.mul_assoc,Int.mul_assoc]; exact this
  generalize t * u / p = k at *
  rw [Int.sub_mul,Int.mul_sub,Int.mul_neg,Int.mul_assoc p k b]
  have e3:t * u * b = t * b * u:=by rw [Int.mul_assoc,Int.mul_comm u b,← Int.mul_assoc]
  have e4:p * (t * v) = t * p * v:=by rw [← Int.mul_assoc,Int.mul_comm p t]
  omega
def Zby (CR cN:Addr):Sp:=fun vs H Q E => ∃ (s:Addr) (p t b:Int),vs = [.ref s,.int t,.int b] ∧ ReA CR p H s ∧ M2.Prm p ∧ p < 1000000 ∧ t.natAbs ≤ 10 ^ 140 ∧ b.natAbs ≤ 10 ^ 100 ∧ (p ∣ b → E (.ref cN) none H) ∧
  (¬ p ∣ b → ∀ (H':Hp) (r:Int),Same H H' → 0 ≤ r → r < p → p ∣ r * b - t → Q (.int r) H')
section
variable {P:Program} {w:World} {K:PySem.W.Frag} {mg:Str → Option Value} {base:Heap}
theorem Zd2:FnScope ["self", "top", "bottom"] ["self", "top", "bottom"] (Zag ZaY):=⟨rfl,rfl,rfl,by decide +kernel,rfl,by decide +kernel,by decide +kernel⟩
theorem Zd3 {CR cN:Addr} {f T:Addr} {fd:FuncData} {items:Array Value} (F:FunD K "number" "Rests.number" ZaY f fd T items) (cl:Cls K CR) (nP:NoAttr K CR "prime") (c:ExcC K mg "NoNumber" cN) (h_shares:Has P w K mg base "shares" 2 ["one", "other"] ZcY):FnOk P w K mg base (CXx P w) 3 f fd ["self", "top", "bottom"] (Zby CR cN):=by
  refine F.okx Zd2 (fun vs H Q E h => ?_) (fun cdv A outer s H vs Q E hr h => ?_)
  · obtain ⟨_,_,_,_,rfl,_⟩:=h
    rfl
  obtain ⟨sr,p,t,b,rfl,⟨dx,hs⟩,pr,lp,lt,lb,k0,k⟩:=h
  have h2:=pr.1
  refine ⟨_,(Zad (ZaC (Zap Zbi (Zaj ZaQ (pv 2) (Zbj (pv 0) rfl)) Zac (Zan _)) (Zae (ZcW c ZfB rfl (by rfl) (Zaa ZdF Zab))) Zao)
    (Zae (Zai (Zaj ZaQ (Zaj Zaz (pv 1) (Zar Zaq (Zam h_shares hr (by rfl) (Zaa (pv 2) (Zaa (Zbj (pv 0) rfl) Zab))) Zac (fun _ _ => rfl))) (Zbj (pv 0) rfl))))),?_⟩
  refine ⟨_,rfl,_,rfl,sr,CR,dx,_,_,rfl,hs,cl,nP,Zbk p,_,_,rfl,rfl,(show p ≠ 0 by omega),rfl,_,rfl,?_⟩
  refine ZbD (fun z => ⟨(by show 1 ≤ 1000; decide),k0 ((M2.fmod_dvd (by omega)).mp z)⟩) (fun hb => ?_)
  have hb':¬ p ∣ b:=fun z => hb ((M2.fmod_dvd (by omega)).mpr z)
  have g1:=M2.prm_gcd pr hb'
  refine ⟨_,rfl,_,rfl,_,rfl,sr,CR,dx,_,_,rfl,hs,cl,nP,Zbk p,b,p,rfl,lb,by omega,fun q H1 u v S hq e bu bv => ?_⟩
  refine ⟨_,_,_,_,rfl,rfl,SqT.of hq,rfl,_,_,rfl,rfl,Za6 (by omega) (by omega),_,rfl,sr,CR,dx,_,_,rfl,S _ _ hs,cl,nP,Zbk p,_,_,rfl,rfl,(show p ≠ 0 by omega),?_⟩
  rw [g1] at e
  obtain ⟨r0,r1,r2⟩:=Zmj (p:=p) (t:=t) (b:=b) (r:=t * u % p) h2 e rfl
  show Q (V.int ((t * u).fmod p)) _
  rw [Int.fmod_eq_emod_of_nonneg _ (by omega)]
  exact k hb' H1 _ S r0 r1 r2
theorem Zhr {CR cN:Addr} {tk:Tok} (h:HereD K CR "number" "Rests.number" ZaY #[.int 1 tk]) (cl:Cls K CR) (nP:NoAttr K CR "prime") (c:ExcC K mg "NoNumber" cN) (h_shares:Has P w K mg base "shares" 2 ["one", "other"] ZcY):HasMX P w K mg base CR "number" 3 ["self", "top", "bottom"] [] (Zby CR cN) :=
  h.hasMX (ds:=[]) .nil (fun f fd T F => F.binds fun _ _ _ _ _ _ us hl => by obtain ⟨_,_,_,rfl⟩:=Zdv (show us.length = 3 by simpa using hl); exact ⟨_,rfl,rfl⟩) fun f fd T F => Zd3 F cl nP c h_shares
theorem Zgd {CR cN:Addr} {tk:Tok} (h:HereD K CR "number" "Rests.number" ZaY #[.int 1 tk]) (cl:Cls K CR) (nP:NoAttr K CR "prime") (c:ExcC K mg "NoNumber" cN) (h_shares:Has P w K mg base "shares" 2 ["one", "other"] ZcY):HasMX P w K mg base CR "number" 3 ["self", "top", "bottom"] [.int 1] (Zby CR cN) :=
  h.hasMX (ds:=[.int 1 tk]) (.cons ⟨_,rfl⟩ .nil) (fun f fd T F => F.binds fun _ _ _ _ _ _ us hl => by obtain ⟨_,_,rfl⟩:=Zdg (show us.length = 2 by simpa using hl); exact ⟨_,rfl,rfl⟩) fun f fd T F => Zd3 F cl nP c h_shares
end
def Zez (K:PySem.W.Frag) (CF:Addr):Sp:=fun vs H Q _ => ∃ (s p q:Addr) (a1 b1 a2 b2:Int),vs = [.ref s,.ref p,.ref q] ∧ FrA CF H s ∧ SqT K H p [.int a1,.int b1] ∧ SqT K H q [.int a2,.int b2] ∧ Fc a1 b1 ∧ Fc a2 b2 ∧
  Bits 1000000 a1 ∧ Bits 4000 b1 ∧ Bits 1000000 a2 ∧ Bits 4000 b2 ∧
  ∀ (t:Addr) (H':Hp) (x y:Int),Same H H' → H' t = some (.tup [.int x,.int y]) → H t = none → Fc x y → x * (b1 * b2) = (a1 * b2 + (-a2) * b1) * y → Q (.ref t) H'
section
variable {P:Program} {w:World} {K:PySem.W.Frag} {mg:Str → Option Value} {base:Heap}
theorem ZcN:FnScope ["self", "one", "other"] ["self", "one", "other"] (Zag Zba):=⟨rfl,rfl,rfl,by decide +kernel,rfl,by decide +kernel,by decide +kernel⟩
theorem Zhs {CF:Addr} (h:HereM K CF "minus" "Fractions.minus" Zba) (cl:Cls K CF) (hM:HasM P w K mg base CF "plus" 2 ["self", "one", "other"] [] (Zd0 K CF)):HasM P w K mg base CF "minus" 3 ["self", "one", "other"] [] (Zez K CF):=by
  refine h.hasM (fun f fd F => F.binds fun _ _ _ _ _ _ us hl => by obtain ⟨_,_,_,rfl⟩:=Zdv hl; exact rfl) fun f fd F => F.ok ZcN (fun vs H Q E h => ?_) (fun cdv A outer s H vs Q E hr h => ?_)
  · obtain ⟨_,_,_,_,_,_,_,rfl,_⟩:=h
    rfl
  obtain ⟨sf,p,q,a1,b1,a2,b2,rfl,⟨dx,hs⟩,hp,hq,f1,f2,la1,lb1,la2,lb2,k⟩:=h
  refine ⟨_,(Zae (Zai (ZaA (pv 0) hr (Zaa (pv 1) (Zaa (Zbs (Zaa (ZeH ZcR (Zar Zaq (pv 2) Zac (fun _ _ => rfl))) (Zaa (Zar Zaq (pv 2) Zac (fun _ _ => rfl)) Zab))) Zab))))),?_⟩
  refine ⟨_,rfl,_,_,_,_,_,_,_,rfl,hs,cl,hM,rfl,_,rfl,_,rfl,_,_,_,_,rfl,rfl,hq,rfl,_,rfl,_,rfl,_,_,_,_,rfl,rfl,hq,rfl,(by show 2 ≤ sizeLine; decide),fun r hr' => ?_⟩
  have S:=Zah hr' (.tup [.int (-a2),.int b2])
  refine ⟨sf,p,r,a1,b1,-a2,b2,rfl,⟨dx,S _ _ hs⟩,S.tup hp,SqT.of Zaf,f1,⟨f2.pos,by rw [Int.neg_gcd]; exact f2.cop⟩,la1,lb1,la2.le (by omega),lb2,fun t H' x y S' ht hn fc e => ?_⟩
  exact k t H' x y (S.trans S') ht (by
    cases z:H t with
    | none => rfl
    | some o => rw [S t o z] at hn; cases hn) fc e
end
section
variable {P:Program} {w:World} {K:PySem.W.Frag} {mg:Str → Option Value} {base:Heap}
theorem Zel:FnScope ["self", "one", "other"] ["self", "one", "other"] (Zag Zb2):=⟨rfl,rfl,rfl,by decide +kernel,rfl,by decide +kernel,by decide +kernel⟩
theorem Ziw {CR:Addr} (h:HereM K CR "minus" "Rests.minus" Zb2) (cl:Cls K CR) (nP:NoAttr K CR "prime"):HasM P w K mg base CR "minus" 1 ["self", "one", "other"] [] (Zey CR fun a b => a - b):=by
  refine h.hasM (fun f fd F => F.binds fun _ _ _ _ _ _ us hl => by obtain ⟨_,_,_,rfl⟩:=Zdv hl; exact rfl) fun f fd F => F.ok Zel (fun vs H Q E h => ?_) (fun cdv A outer s H vs Q E hr h => ?_)
  · obtain ⟨_,_,_,_,rfl,_⟩:=h
    rfl
  obtain ⟨sr,p,a,b,rfl,⟨dx,hs⟩,h2,la,lb,k⟩:=h
  refine ⟨_,(Zae (Zai (Zaj ZaQ (Zaj ZbB (pv 1) (pv 2)) (Zbj (pv 0) rfl)))),?_⟩
  refine ⟨_,rfl,_,rfl,_,_,rfl,rfl,_,rfl,sr,CR,dx,_,_,rfl,hs,cl,nP,Zbk p,_,_,rfl,rfl,(show p ≠ 0 by omega),?_⟩
  show Q (V.int ((a - b).fmod p)) _
  rw [Int.fmod_eq_emod_of_nonneg _ (by omega)]
  exact k
end
def ZgP (K:PySem.W.Frag) (cN:Addr):Sp:=fun vs H Q E => ∃ (s p:Addr) (a b:Int),vs = [.ref s,.ref p] ∧ SqT K H p [.int a,.int b] ∧ Fc a b ∧ (a = 0 → E (.ref cN) none H) ∧
  (a ≠ 0 → ∀ (r:Addr) (x y:Int),H r = none → Fc x y → x * a = b * y → x.natAbs = b.natAbs → y.natAbs = a.natAbs → Q (.ref r) (upd H r (.tup [.int x,.int y])))
section
variable {P:Program} {w:World} {K:PySem.W.Frag} {mg:Str → Option Value} {base:Heap}
theorem Zdj:FnScope ["self", "one"] ["self", "one"] (Zag Zbn):=⟨rfl,rfl,rfl,by decide +kernel,rfl,by decide +kernel,by decide +kernel⟩
theorem Zju {CF cN:Addr} (h:HereM K CF "back" "Fractions.back" Zbn) (c_NoNumber:ExcC K mg "NoNumber" cN):HasMX P w K mg base CF "back" 1 ["self", "one"] [] (ZgP K cN):=by
  refine h.hasMX (fun f fd F => F.binds fun _ _ _ _ _ _ us hl => by obtain ⟨_,_,rfl⟩:=Zdg hl; exact rfl) fun f fd F => F.okx Zdj (fun vs H Q E h => ?_) (fun cdv A outer s H vs Q E hr h => ?_)
  · obtain ⟨_,_,_,_,rfl,_⟩:=h
    rfl
  obtain ⟨sf,p,a,b,rfl,hp,fc,k0,k⟩:=h
  have hb:=fc.pos
  refine ⟨_,(Zad (ZaC (Zap Zbi (Zar Zaq (pv 1) Zac (fun _ _ => rfl)) Zac (Zan _)) (Zae (ZcW c_NoNumber ZfB rfl (by rfl) (Zaa ZdF Zab))) Zao)
    (Zad (ZaC (Zap ZfY (Zar Zaq (pv 1) Zac (fun _ _ => rfl)) Zac (Zan _)) (Zae (Zai (Zbs (Zaa (ZeH ZcR (Zar Zaq (pv 1) Zac (fun _ _ => rfl))) (Zaa (ZeH ZcR (Zar Zaq (pv 1) Zac (fun _ _ => rfl))) Zab))))) Zao)
    (Zae (Zai (Zbs (Zaa (Zar Zaq (pv 1) Zac (fun _ _ => rfl)) (Zaa (Zar Zaq (pv 1) Zac (fun _ _ => rfl)) Zab))))))),?_⟩
  refine ⟨_,rfl,_,_,_,_,rfl,rfl,hp,rfl,rfl,_,rfl,?_⟩
  refine ZbD (fun z => ⟨(by show 1 ≤ 1000; decide),k0 z⟩) (fun ha => ?_)
  refine ⟨_,rfl,_,_,_,_,rfl,rfl,hp,rfl,_,_,rfl,rfl,_,rfl,?_⟩
  refine ZbI (fun hn => ?_) (fun hn => ?_)
  · refine ⟨_,rfl,_,_,_,_,rfl,rfl,hp,rfl,_,rfl,_,rfl,_,_,_,_,rfl,rfl,hp,rfl,_,rfl,(by show 2 ≤ sizeLine; decide),fun r hr' => ?_⟩
    refine k ha r (-b) (-a) hr' ⟨by omega,?_⟩ (by rw [Int.neg_mul,Int.mul_neg]) (by omega) (by omega)
    rw [Int.neg_gcd,Int.gcd_neg,Int.gcd_comm]; exact fc.cop
  · refine ⟨_,rfl,_,_,_,_,rfl,rfl,hp,rfl,_,rfl,_,_,_,_,rfl,rfl,hp,rfl,(by show 2 ≤ sizeLine; decide),fun r hr' => ?_⟩
    exact k ha r b a hr' ⟨by omega,by rw [Int.gcd_comm]; exact fc.cop⟩ rfl rfl rfl
end
def ZgQ (CR cN:Addr):Sp:=fun vs H Q E => ∃ (s:Addr) (p a:Int),vs = [.ref s,.int a] ∧ ReA CR p H s ∧ M2.Prm p ∧ p < 1000000 ∧ a.natAbs ≤ 10 ^ 100 ∧ (p ∣ a → E (.ref cN) none H) ∧
  (¬ p ∣ a → ∀ (H':Hp) (r:Int),Same H H' → 0 ≤ r → r < p → p ∣ r * a - 1 → Q (.int r) H')
section
variable {P:Program} {w:World} {K:PySem.W.Frag} {mg:Str → Option Value} {base:Heap}
theorem Ze2:FnScope ["self", "one"] ["self", "one"] (Zag Zcl):=⟨rfl,rfl,rfl,by decide +kernel,rfl,by decide +kernel,by decide +kernel⟩
theorem Zjv {CR cN:Addr} (h:HereM K CR "back" "Rests.back" Zcl) (cl:Cls K CR) (hN:HasMX P w K mg base CR "number" 3 ["self", "top", "bottom"] [] (Zby CR cN)):HasMX P w K mg base CR "back" 4 ["self", "one"] [] (ZgQ CR cN):=by
  refine h.hasMX (fun f fd F => F.binds fun _ _ _ _ _ _ us hl => by obtain ⟨_,_,rfl⟩:=Zdg hl; exact rfl) fun f fd F => F.okx Ze2 (fun vs H Q E h => ?_) (fun cdv A outer s H vs Q E hr h => ?_)
  · obtain ⟨_,_,_,rfl,_⟩:=h
    rfl
  obtain ⟨sr,p,a,rfl,⟨dx,hs⟩,pr,lp,la,k0,k⟩:=h
  refine ⟨_,(Zae (Zai (ZaL (pv 0) ZkD hr (Zaa Zac (Zaa (pv 1) Zab))))),?_⟩
  exact ⟨_,rfl,sr,CR,dx,_,_,_,_,rfl,hs,cl,hN,ZcE p (by decide),_,rfl,sr,p,1,a,rfl,⟨dx,hs⟩,pr,lp,by decide,la,k0,k⟩
end
def ZeA (K:PySem.W.Frag) (CF:Addr):Sp:=fun vs H Q _ => ∃ (s p:Addr) (a b:Int),vs = [.ref s,.ref p] ∧ SqT K H p [.int a,.int b] ∧ Q (.bl (decide (a = 0))) H
section
variable {P:Program} {w:World} {K:PySem.W.Frag} {mg:Str → Option Value} {base:Heap}
theorem Zcb:FnScope ["self", "one"] ["self", "one"] (Zag ZaS):=⟨rfl,rfl,rfl,by decide +kernel,rfl,by decide +kernel,by decide +kernel⟩
theorem Zht {CF:Addr} (h:HereM K CF "is_nought" "Fractions.is_nought" ZaS):HasM P w K mg base CF "is_nought" 1 ["self", "one"] [] (ZeA K CF):=by
  refine h.hasM (fun f fd F => F.binds fun _ _ _ _ _ _ us hl => by obtain ⟨_,_,rfl⟩:=Zdg hl; exact rfl) fun f fd F => F.ok Zcb (fun vs H Q E h => ?_) (fun cdv A outer s H vs Q E hr h => ?_)
  · obtain ⟨_,_,_,_,rfl,_⟩:=h
    rfl
  obtain ⟨sf,p,a,b,rfl,hp,k⟩:=h
  refine ⟨_,(Zae (Zai (ZaR Zbi (Zar Zaq (pv 1) Zac (fun _ _ => rfl)) Zac (Zan _)))),?_⟩
  refine ⟨_,rfl,_,_,_,_,rfl,rfl,hp,rfl,rfl,?_⟩
  rw [ZeN]
  exact k
end
def ZeB:Sp:=fun vs H Q _ => ∃ (s:Addr) (a:Int),vs = [.ref s,.int a] ∧ Q (.bl (decide (a = 0))) H
section
variable {P:Program} {w:World} {K:PySem.W.Frag} {mg:Str → Option Value} {base:Heap}
theorem ZcZ:FnScope ["self", "one"] ["self", "one"] (Zag Zbc):=⟨rfl,rfl,rfl,by decide +kernel,rfl,by decide +kernel,by decide +kernel⟩
theorem Zhu {CR:Addr} (h:HereM K CR "is_nought" "Rests.is_nought" Zbc):HasM P w K mg base CR "is_nought" 1 ["self", "one"] [] ZeB:=by
  refine h.hasM (fun f fd F => F.binds fun _ _ _ _ _ _ us hl => by obtain ⟨_,_,rfl⟩:=Zdg hl; exact rfl) fun f fd F => F.ok ZcZ (fun vs H Q E h => ?_) (fun cdv A outer s H vs Q E hr h => ?_)
  · obtain ⟨_,_,rfl,_⟩:=h
    rfl
  obtain ⟨sf,a,rfl,k⟩:=h
  refine ⟨_,(Zae (Zai (ZaR Zbi (pv 1) Zac (Zan _)))),?_⟩
  refine ⟨_,rfl,rfl,?_⟩
  rw [ZeN]
  exact k
end
end My
namespace My
open PySem L2 PyProof.Rows
theorem ZfH (N:Int) {D:Int} (hD:0 < D):(Rat.divInt N D).num * D = N * (Rat.divInt N D).den:=by
  have h:=Rat.num_divInt_den (Rat.divInt N D)
  have hd:=(ZaU (Rat.divInt N D)).pos
  have:=(Rat.divInt_eq_divInt_iff (n₁:=(Rat.divInt N D).num) (d₁:=((Rat.divInt N D).den:Int)) (n₂:=N) (d₂:=D) (by omega) (by omega)).mp h
  exact this
theorem Zge {a b c:Int} (h:a ∣ b * c) (g:Int.gcd a b = 1):a ∣ c:=by
  rw [← Int.natAbs_dvd_natAbs] at h ⊢
  rw [Int.natAbs_mul] at h
  exact Nat.Coprime.dvd_of_dvd_mul_left g h
theorem Zd4 (N:Int) {D:Int} (hD:0 < D):((Rat.divInt N D).den:Int) ∣ D ∧ (Rat.divInt N D).num ∣ N:=by
  have e:=ZfH N hD
  have c:=(ZaU (Rat.divInt N D)).cop
  generalize (Rat.divInt N D).num = n at *
  generalize ((Rat.divInt N D).den:Int) = d at *
  refine ⟨?_,?_⟩
  · refine Zge (b:=n) ⟨N,?_⟩ (by rw [Int.gcd_comm]; exact c)
    rw [e,Int.mul_comm]
  · refine Zge (b:=d) ⟨D,?_⟩ c
    rw [e,Int.mul_comm]
theorem ZaV {a b:Int} (h:a ∣ b) (hb:b ≠ 0):a.natAbs ≤ b.natAbs:=Nat.le_of_dvd (by omega) (Int.natAbs_dvd_natAbs.mpr h)
theorem ZgR {n:Nat} {a b:Int} (h:a ∣ b) (hb:Bits n b) (hz:b = 0 → a = 0):Bits n a:=by
  by_cases z:b = 0
  · rw [hz z]; exact Nat.zero_le _
  · exact hb.le (ZaV h z)
theorem ZgS (N:Int) {D:Int} (hD:0 < D) (z:N = 0):(Rat.divInt N D).num = 0:=by
  subst z
  have e:=ZfH 0 hD
  rw [Int.zero_mul] at e
  rcases Int.mul_eq_zero.mp e with h | h
  · exact h
  · omega
def KdX (CF CR:Addr) (κ:KX) (H:Hp) (s:Addr):Prop:=match κ with
  | .q => FrA CF H s
  | .r p _ => ReA CR p H s
theorem KdX.same {CF CR:Addr} {κ:KX} {H H':Hp} {k:Addr} (h:KdX CF CR κ H k) (S:Same H H'):KdX CF CR κ H' k:=by
  cases κ with
  | q => obtain ⟨dx,h⟩:=h; exact ⟨dx,S _ _ h⟩
  | r p hp => obtain ⟨dx,h⟩:=h; exact ⟨dx,S _ _ h⟩
theorem Zly {CF CR:Addr} {p:Int} {H:Hp} {s:Addr} (h:KdA CF CR p H s):∃ κ:KX,κ.P = p ∧ KdX CF CR κ H s:=by
  rcases h with ⟨rfl,h⟩ | ⟨pr,lp,h⟩
  · exact ⟨.q,rfl,h⟩
  · have h2:=pr.1
    have e:((p.toNat:Nat):Int) = p:=by omega
    refine ⟨.r p.toNat ⟨by rw [e]; exact pr,by omega⟩,e,?_⟩
    show ReA CR ((p.toNat:Nat):Int) H s
    rw [e]; exact h
abbrev B1 (κ:KX) (x:κ.F):Prop:=Bd κ 1000000 4000 x
theorem ZaO {p:Nat} (h:PrN p) (x:Fin p):((x.val:Int)).natAbs ≤ 10 ^ 150:=by
  have:=x.isLt
  have:=h.lt
  exact Nat.le_trans (show _ ≤ 1000000 by omega) (by decide)
def ZkK (P:Program) (w:World) (K:PySem.W.Frag) (mg:Str → Option Value) (base:Heap) (CF CR:Addr) (m:Str) (g:(κ:KX) → κ.F → κ.F → κ.F):Prop :=
  ∀ (κ:KX) (H:Hp) (s:Addr),KdX CF CR κ H s → ∃ C dx fs ps dvs sp,H s = some (.ins C dx fs) ∧ Cls K C ∧ HasM P w K mg base C m 2 ps dvs sp ∧ fs.lookup m = none ∧ dvs = [] ∧
    ∀ (H':Hp) (u v:V) (x y:κ.F) (Q:VK),Same H H' → NR κ H' u x → NR κ H' v y → B1 κ x → B1 κ y → (∀ t H'',Same H' H'' → NR κ H'' t (g κ x y) → Q t H'') → sp [.ref s,u,v] H' Q E0
end My
namespace My
open PySem L2 PyProof.Rows
section
variable {P:Program} {w:World} {K:PySem.W.Frag} {mg:Str → Option Value} {base:Heap} {CF CR:Addr}
theorem Zix (kd:Kd K mg CF CR) (hF:HasM P w K mg base CF "plus" 2 ["self", "one", "other"] [] (Zd0 K CF)) (hR:HasM P w K mg base CR "plus" 2 ["self", "one", "other"] [] (Zey CR fun a b => a + b)):ZkK P w K mg base CF CR "plus" (fun _ x y => x + y):=by
  intro κ H s hk
  cases κ with
  | q =>
    obtain ⟨dx,h⟩:=hk
    refine ⟨CF,dx,[],_,_,_,h,kd.clF,hF,rfl,rfl,fun H' u v x y Q S hu hv bx by' k => ?_⟩
    obtain ⟨a,rfl,hu⟩:=hu
    obtain ⟨b,rfl,hv⟩:=hv
    refine ⟨s,a,b,_,_,_,_,rfl,⟨dx,S _ _ h⟩,SqT.of hu,SqT.of hv,ZaU x,ZaU y,bx.1,bx.2,by'.1,by'.2,fun t H'' n d S' ht hn fc e => ?_⟩
    obtain ⟨e1,e2⟩:=Zis (x:=x) (y:=y) fc e
    refine k (.ref t) H'' S' ⟨t,rfl,?_⟩
    show H'' t = some (.tup [.int (x + y).num,.int ((x + y).den:Int)])
    rw [e1,e2]
    exact ht
  | r p hp =>
    obtain ⟨dx,h⟩:=hk
    refine ⟨CR,dx,fsR p,_,_,_,h,kd.clR,hR,ZcE _ (by decide),rfl,fun H' u v x y Q S hu hv _ _ k => ?_⟩
    have hu:u = .int x.val:=hu
    have hv:v = .int y.val:=hv
    subst hu hv
    refine ⟨s,p,_,_,rfl,⟨dx,S _ _ h⟩,by have:=hp.two; omega,ZaO hp x,ZaO hp y,k _ H' (Same.refl _) ?_⟩
    show V.int (((x.val:Int) + y.val) % p) = V.int ((Fin.val (x + y):Nat):Int)
    have e:Fin.val (x + y) = (x.val + y.val) % p:=Fin.val_add x y
    rw [e,Int.natCast_emod,Int.natCast_add]
end
section
variable {P:Program} {w:World} {K:PySem.W.Frag} {mg:Str → Option Value} {base:Heap} {CF CR:Addr}
theorem Zhv (kd:Kd K mg CF CR) (hF:HasM P w K mg base CF "times" 2 ["self", "one", "other"] [] (Zex K CF)) (hR:HasM P w K mg base CR "times" 2 ["self", "one", "other"] [] (Zey CR fun a b => a * b)):ZkK P w K mg base CF CR "times" (fun _ x y => x * y):=by
  intro κ H s hk
  cases κ with
  | q =>
    obtain ⟨dx,h⟩:=hk
    refine ⟨CF,dx,[],_,_,_,h,kd.clF,hF,rfl,rfl,fun H' u v x y Q S hu hv bx by' k => ?_⟩
    obtain ⟨a,rfl,hu⟩:=hu
    obtain ⟨b,rfl,hv⟩:=hv
    refine ⟨s,a,b,_,_,_,_,rfl,⟨dx,S _ _ h⟩,SqT.of hu,SqT.of hv,ZaU x,ZaU y,bx.1,bx.2,by'.1,by'.2,fun t H'' n d S' ht hn fc e => ?_⟩
    obtain ⟨e1,e2⟩:=Zit (x:=x) (y:=y) fc e
    refine k (.ref t) H'' S' ⟨t,rfl,?_⟩
    show H'' t = some (.tup [.int (x * y).num,.int ((x * y).den:Int)])
    rw [e1,e2]
    exact ht
  | r p hp =>
    obtain ⟨dx,h⟩:=hk
    refine ⟨CR,dx,fsR p,_,_,_,h,kd.clR,hR,ZcE _ (by decide),rfl,fun H' u v x y Q S hu hv _ _ k => ?_⟩
    have hu:u = .int x.val:=hu
    have hv:v = .int y.val:=hv
    subst hu hv
    refine ⟨s,p,_,_,rfl,⟨dx,S _ _ h⟩,by have:=hp.two; omega,ZaO hp x,ZaO hp y,k _ H' (Same.refl _) ?_⟩
    show V.int (((x.val:Int) * y.val) % p) = V.int ((Fin.val (x * y):Nat):Int)
    have e:Fin.val (x * y) = (x.val * y.val) % p:=Fin.val_mul x y
    rw [e,Int.natCast_emod,Int.natCast_mul]
end
end My
namespace L2
open PySem PySem.Spec PyProof.Rows
section
variable {X:Cx}
theorem ZgT:OpR X (binaryOp .FloorDiv) (rI (fun _ j => j ≠ 0 ∧ Bits 8000 j) fun i j => .int (i.fdiv j)):=opI fun _ _ _ _ _ _ _ hc q => floordiv_int hc.1 q (.inl (PyProof.noPylong_of_log2 (Nat.lt_trans (hc.2.log hc.1) (by decide))))
end
end L2
namespace My
open PySem L2 PyProof.Rows
section
variable {κ:KX}
def RowsX (κ:KX) (H:Hp) (as:List Addr) (R:List (List κ.F)):Prop:=as.length = R.length ∧ ∀ (i:Nat) a f,as[i]? = some a → R[i]? = some f → ∃ xs,H a = some (.lst xs) ∧ AllG (NR κ H) xs f
def AllR (Pr:κ.F → Prop) (R:List (List κ.F)):Prop:=∀ f ∈ R,∀ x ∈ f,Pr x
theorem RowsX.same {H H':Hp} {as:List Addr} {R:List (List κ.F)} (h:RowsX κ H as R) (S:Same H H'):RowsX κ H' as R :=
  ⟨h.1,fun i a f ha hf => let ⟨xs,hx,al⟩:=h.2 i a f ha hf; ⟨xs,S _ _ hx,al.mono fun _ _ n => n.same S⟩⟩
theorem RowsX.off {H H':Hp} {t:Addr} {as:List Addr} {R:List (List κ.F)} {ys:List V} (h:RowsX κ H as R) (n:t ∉ as) (ht:H t = some (.lst ys)) (O:Off [t] H H'):RowsX κ H' as R :=
  ⟨h.1,fun i a f ha hf => let ⟨xs,hx,al⟩:=h.2 i a f ha hf; ⟨xs,O _ _ (fun m => n (by rw [← List.mem_singleton.mp m]; exact List.mem_of_getElem? ha)) hx,al.mono fun _ _ n => n.off ht O⟩⟩
theorem RowsX.get {H:Hp} {as:List Addr} {R:List (List κ.F)} (h:RowsX κ H as R) {i:Nat} (hi:i < R.length):∃ a xs,as[i]? = some a ∧ H a = some (.lst xs) ∧ AllG (NR κ H) xs R[i]:=by
  have l:=h.1
  obtain ⟨xs,hx,al⟩:=h.2 i (as[i]'(by omega)) R[i] (List.getElem?_eq_getElem (by omega)) (List.getElem?_eq_getElem hi)
  exact ⟨_,xs,List.getElem?_eq_getElem (by omega),hx,al⟩
theorem RowsX.set {H:Hp} {as:List Addr} {R:List (List κ.F)} (h:RowsX κ H as R) (i:Nat) {a:Addr} {xs:List V} {f:List κ.F} (hx:H a = some (.lst xs)) (al:AllG (NR κ H) xs f):RowsX κ H (as.set i a) (R.set i f):=by
  have l:=h.1
  refine ⟨by rw [List.length_set,List.length_set,l],fun j b g hb hg => ?_⟩
  rw [List.getElem?_set] at hb hg
  split at hb
  · rename_i e
    rw [if_pos e] at hg
    split at hb
    · rename_i hl
      rw [if_pos (by omega)] at hg
      cases hb; cases hg; exact ⟨xs,hx,al⟩
    · cases hb
  · rename_i e
    rw [if_neg e] at hg
    exact h.2 j b g hb hg
inductive Tn (κ:KX) where
  | swap (i j:Int)
  | scale (i:Int) (c:κ.F)
  | add (i j:Int) (c:κ.F)
def TR (κ:KX) (H:Hp) (v:V) (t:Tn κ):Prop:=match t with
  | .swap i j => ∃ a,v = .ref a ∧ H a = some (.tup [.str "swap", .int i,.int j])
  | .scale i c => ∃ a u,v = .ref a ∧ H a = some (.tup [.str "scale", .int i,u]) ∧ NR κ H u c
  | .add i j c => ∃ a u,v = .ref a ∧ H a = some (.tup [.str "add", .int i,.int j,u]) ∧ NR κ H u c
theorem TR.same {H H':Hp} {v:V} {t:Tn κ} (h:TR κ H v t) (S:Same H H'):TR κ H' v t:=by
  cases t with
  | swap i j => obtain ⟨a,e,h⟩:=h; exact ⟨a,e,S _ _ h⟩
  | scale i c => obtain ⟨a,u,e,h,n⟩:=h; exact ⟨a,u,e,S _ _ h,n.same S⟩
  | add i j c => obtain ⟨a,u,e,h,n⟩:=h; exact ⟨a,u,e,S _ _ h,n.same S⟩
theorem TR.off {H H':Hp} {t:Addr} {ys:List V} {v:V} {x:Tn κ} (h:TR κ H v x) (ht:H t = some (.lst ys)) (O:Off [t] H H'):TR κ H' v x:=by
  have na:∀ a zs,H a = some (.tup zs) → a ∉ [t]:=fun a zs q m => by rw [List.mem_singleton.mp m,ht] at q; cases q
  cases x with
  | swap i j => obtain ⟨a,e,h⟩:=h; exact ⟨a,e,O _ _ (na _ _ h) h⟩
  | scale i c => obtain ⟨a,u,e,h,n⟩:=h; exact ⟨a,u,e,O _ _ (na _ _ h) h,n.off ht O⟩
  | add i j c => obtain ⟨a,u,e,h,n⟩:=h; exact ⟨a,u,e,O _ _ (na _ _ h) h,n.off ht O⟩
def Tn.D:Tn κ → PyData
  | .swap i j => .tuple [.str "swap", .int i,.int j]
  | .scale i c => .tuple [.str "scale", .int i,κ.D c]
  | .add i j c => .tuple [.str "add", .int i,.int j,κ.D c]
theorem Zgf {H:Hp} {x:Str}:Fl H (.str x) (.str x):=.inr (.inr (.inr (.inl ⟨x,rfl,rfl⟩)))
theorem TR.rp {H:Hp} {v:V} {t:Tn κ} (h:TR κ H v t):Rp H 2 v t.D:=by
  cases t with
  | swap i j =>
    obtain ⟨a,rfl,h⟩:=h
    exact ZfF h (.cons (.inl Zgf) (.cons (.inl Zb8) (.cons (.inl Zb8) .nil)))
  | scale i c =>
    obtain ⟨a,u,rfl,h,n⟩:=h
    exact ZfF h (.cons (.inl Zgf) (.cons (.inl Zb8) (.cons n.rp .nil)))
  | add i j c =>
    obtain ⟨a,u,rfl,h,n⟩:=h
    exact ZfF h (.cons (.inl Zgf) (.cons (.inl Zb8) (.cons (.inl Zb8) (.cons n.rp .nil))))
def Tn.ok (n:Nat):Tn κ → Prop
  | .swap i j => (0 ≤ i ∧ i < n) ∧ (0 ≤ j ∧ j < n) ∧ i ≠ j
  | .scale i c => (0 ≤ i ∧ i < n) ∧ c ≠ 0
  | .add i j _ => (0 ≤ i ∧ i < n) ∧ (0 ≤ j ∧ j < n) ∧ i ≠ j
def Tn.bd:Tn κ → Prop
  | .swap _ _ => True
  | .scale _ c => B1 κ c
  | .add _ _ c => B1 κ c
noncomputable def doT (t:Tn κ) (R:List (List κ.F)):List (List κ.F):=match t with
  | .swap i j => (R.set i.toNat (R.getD j.toNat [])).set j.toNat (R.getD i.toNat [])
  | .scale i c => R.set i.toNat ((R.getD i.toNat []).map (c * ·))
  | .add i j c => R.set i.toNat (List.zipWith (· + ·) (R.getD i.toNat []) ((R.getD j.toNat []).map (c * ·)))
end
theorem Zdk {p:Prop} [Decidable p] {A B:Prop} (h:p) (k:A):if decide p = true then A else B:=by rw [if_pos (decide_eq_true h)]; exact k
theorem ZgU {p:Prop} [Decidable p] {A B:Prop} (h:¬ p) (k:B):if decide p = true then A else B:=by rw [if_neg (by simpa using h)]; exact k
def Tn.pre {κ:KX} (R:List (List κ.F)):Tn κ → Prop
  | .swap _ _ => True
  | .scale i c => B1 κ c ∧ ∀ x ∈ R.getD i.toNat [],B1 κ x
  | .add i j c => B1 κ c ∧ (∀ x ∈ R.getD i.toNat [],B1 κ x) ∧ ∀ y ∈ R.getD j.toNat [],B1 κ y ∧ B1 κ (c * y)
def Ziy (P:Program) (w:World) (K:PySem.W.Frag) (mg:Str → Option Value) (base:Heap) (CF CR:Addr):Prop :=
  ∀ (κ:KX) (H:Hp) (s:Addr),KdX CF CR κ H s → ∃ C dx fs ps dvs sp,H s = some (.ins C dx fs) ∧ Cls K C ∧ HasM P w K mg base C "is_nought" 2 ps dvs sp ∧ fs.lookup ("is_nought" : Str) = none ∧ dvs = [] ∧
    ∀ (u:V) (x:κ.F) (Q:VK),NR κ H u x → (∀ b:Bool,(b = true ↔ x = 0) → Q (.bl b) H) → sp [.ref s,u] H Q E0
noncomputable def Znl {κ:KX} (ts:List (Tn κ)) (R:List (List κ.F)):List (List κ.F):=ts.foldl (fun R t => doT t R) R
theorem Zjw {α:Type} {R:List (List α)} {i:Nat} {f:List α} (h:R[i]? = some f):R.getD i [] = f:=by rw [List.getD_eq_getElem?_getD,h]; rfl
def Wid {α:Type} (m:Nat) (R:List (List α)):Prop:=∀ f ∈ R,f.length = m
theorem Wid.get {α:Type} {m:Nat} {R:List (List α)} (h:Wid m R) {i:Nat} (hi:i < R.length):(R.getD i []).length = m:=by
  rw [Zjw (List.getElem?_eq_getElem hi)]
  exact h _ (List.getElem_mem hi)
theorem Wid.set {α:Type} {m i:Nat} {R:List (List α)} {f:List α} (h:Wid m R) (e:f.length = m):Wid m (R.set i f):=fun g hg => by
  rcases List.mem_or_eq_of_mem_set hg with hg | rfl
  · exact h g hg
  · exact e
theorem Ze3 {H H':Hp} {t:Addr} {o:HO} (S:Same H H'):Off [t] H (upd H' t o):=fun b u n q => by
  rw [Zat (fun z => n (by rw [z]; exact List.mem_singleton.mpr rfl))]
  exact S _ _ q
theorem ZkL {n:Nat} {i:Int} (h0:0 ≤ i) (h:i < n):ixN n i = some i.toNat:=by
  have e:i = ((i.toNat:Nat):Int):=by omega
  rw [e,Int.toNat_natCast]
  exact ZkJ (by omega)
theorem RowsX.snoc {κ:KX} {H:Hp} {as:List Addr} {R:List (List κ.F)} {a:Addr} {xs:List V} {f:List κ.F} (h:RowsX κ H as R) (hx:H a = some (.lst xs)) (al:AllG (NR κ H) xs f):RowsX κ H (as ++ [a]) (R ++ [f]):=by
  have l:=h.1
  refine ⟨by rw [List.length_append,List.length_append,l]; rfl,fun i b g hb hg => ?_⟩
  by_cases hi:i < as.length
  · rw [List.getElem?_append_left hi] at hb
    rw [List.getElem?_append_left (by omega)] at hg
    exact h.2 i b g hb hg
  · rw [List.getElem?_append_right (by omega)] at hb hg
    rw [← l] at hg
    cases q:i - as.length with
    | zero => rw [q] at hb hg; cases hb; cases hg; exact ⟨xs,hx,al⟩
    | succ n => rw [q] at hb; simp at hb
theorem RowsX.nil {κ:KX} {H:Hp}:RowsX κ H [] []:=⟨rfl,fun i a f h => by simp at h⟩
open PySem L2 PyProof.Rows
def Sz (κ:KX) (n:Nat) (x:κ.F):Prop:=match κ with
  | .q => (x.den:Int) ∣ 60 * 12 ^ n ∧ Bits (200 + 700 * n) x.num
  | .r _ _ => True
def Sc (κ:KX) (x:κ.F):Prop:=match κ with
  | .q => (x.den:Int) ∣ 12 ∧ Bits 200 x.num
  | .r _ _ => True
theorem Znc {t b:Int} (hb:0 < b):(t.fdiv (Int.gcd t b) = (Rat.divInt t b).num) ∧ (b.fdiv (Int.gcd t b) = ((Rat.divInt t b).den:Int)):=by
  obtain ⟨l1,l2,l3,_,_⟩:=M3.low (t:=t) hb
  obtain ⟨e1,e2⟩:=Zir (N:=t) (D:=b) ⟨l2,l1⟩ hb l3
  exact ⟨e1.symm,e2.symm⟩
def Ze4:Sp:=fun vs H Q _ => ∃ t b:Int,vs = [.int t,.int b] ∧ 0 < b ∧ Bits 8000 b ∧ ∀ r,H r = none → Q (.ref r) (upd H r (.tup [.int (Rat.divInt t b).num,.int ((Rat.divInt t b).den:Int)]))
def Zc0 (g:(κ:KX) → κ.F → κ.F → κ.F):Sp:=fun vs H Q _ => ∃ (κ:KX) (u v:V) (x y:κ.F),vs = [.int κ.P,u,v] ∧ NR κ H u x ∧ NR κ H v y ∧ B1 κ x ∧ B1 κ y ∧ ∀ H' t,Same H H' → NR κ H' t (g κ x y) → Q t H'
theorem Zgg {p:Nat} {h:PrN p}:0 < (KX.r p h).P:=by have:=h.two; show 0 < (p:Int); omega
theorem Zlz {p:Nat} (h:PrN p) (c:Int):∃ x:Fin p,(c.fmod (p:Int)) = (x.val:Int):=by
  have h2:=h.two
  rw [Int.fmod_eq_emod_of_nonneg _ (by omega)]
  have e0:=Int.emod_nonneg c (show (p:Int) ≠ 0 by omega)
  have e1:=Int.emod_lt_of_pos c (show 0 < (p:Int) by omega)
  exact ⟨⟨(c % p).toNat,by omega⟩,by show c % p = (((c % p).toNat:Nat):Int); omega⟩
theorem AllR.snoc {κ:KX} {Pr:κ.F → Prop} {R:List (List κ.F)} {f:List κ.F} (h:AllR Pr R) (g:∀ x ∈ f,Pr x):AllR Pr (R ++ [f]):=fun e he => by
  rcases List.mem_append.mp he with he | he
  · exact h e he
  · rw [List.mem_singleton.mp he]; exact g
theorem Wid.snoc {α:Type} {m:Nat} {R:List (List α)} {f:List α} (h:Wid m R) (e:f.length = m):Wid m (R ++ [f]):=fun g hg => by
  rcases List.mem_append.mp hg with hg | hg
  · exact h g hg
  · rw [List.mem_singleton.mp hg]; exact e
theorem Zd5 {a b:Int} {A B:Prop} (h:a = b) (k:A):if decide (V.int a = V.int b) = true then A else B:=ZbD (fun _ => k) (fun z => absurd h z)
theorem ZfI {a b:Int} {A B:Prop} (h:a ≠ b) (k:B):if decide (V.int a = V.int b) = true then A else B:=ZbD (fun z => absurd z h) (fun _ => k)
def TSc {κ:KX}:Tn κ → Prop
  | .swap _ _ => True
  | .scale _ c => Sc κ c
  | .add _ _ c => Sc κ c
noncomputable abbrev K1 (κ:KX):κ.F:=1
noncomputable abbrev K0 (κ:KX):κ.F:=0
theorem Zgh {p:Nat} (h:PrN p):Fin.val (K1 (.r p h)) = 1:=by
  show 1 % p = 1
  exact Nat.mod_eq_of_lt h.two
theorem ZcA {p:Nat} (h:PrN p):Fin.val (K0 (.r p h)) = 0:=by
  show 0 % p = 0
  exact Nat.zero_mod p
theorem ZlA {a:Int} {n:Nat} (h:1 ≤ n):∃ i:Nat,a.fmod (n:Int) = (i:Int) ∧ i < n:=by
  rw [Int.fmod_eq_emod_of_nonneg _ (by omega)]
  have e0:=Int.emod_nonneg a (show (n:Int) ≠ 0 by omega)
  have e1:=Int.emod_lt_of_pos a (show 0 < (n:Int) by omega)
  exact ⟨(a % n).toNat,by omega,by omega⟩
def Znd {κ:KX} (R:List (List κ.F)):PyData:=.list (R.map fun f => .list (f.map κ.D))
theorem RowsX.rp {κ:KX} {H:Hp} {t:Addr} {as:List Addr} {R:List (List κ.F)} (h:RowsX κ H as R) (ht:H t = some (.lst (as.map V.ref))):Rp H 3 (.ref t) (Znd R):=by
  refine ZgN ht ⟨by rw [List.length_map,List.length_map]; exact h.1,fun i v d hv hd => ?_⟩
  obtain ⟨a,ha,rfl⟩:=ZdZ hv
  rw [List.getElem?_map] at hd
  cases e:R[i]? with
  | none => rw [e] at hd; cases hd
  | some f =>
    rw [e] at hd
    cases hd
    obtain ⟨xs,hx,al⟩:=h.2 i a f ha e
    exact ZgN hx (al.all2 fun _ _ n => n.rp)
theorem Zmk (n:Nat):0 < (60:Int) * 12 ^ n:=Int.mul_pos (by decide) (Int.pow_pos (by decide))
theorem ZgV {n:Nat} {d:Int} (h:d ∣ 60 * 12 ^ n):Bits (6 + 4 * n) d:=by
  refine Bits.of ?_
  have h1:=ZaV h (by have:=Zmk n; omega)
  refine Nat.lt_of_le_of_lt h1 ?_
  rw [Int.natAbs_mul,Int.natAbs_pow]
  show 60 * 12 ^ n < 2 ^ (6 + 4 * n)
  rw [Nat.pow_add,Nat.pow_mul]
  have a:12 ^ n ≤ (2 ^ 4) ^ n:=Nat.pow_le_pow_left (by decide) n
  have b:0 < (2 ^ 4) ^ n:=Nat.pow_pos (by decide)
  show 60 * 12 ^ n < 64 * _
  omega
section
variable {κ:KX}
theorem Sz.up {n:Nat} {x:κ.F} (h:Sz κ n x):Sz κ (n + 1) x:=by
  cases κ with
  | q =>
    refine ⟨Int.dvd_trans h.1 ?_,h.2.up (by omega)⟩
    rw [Int.pow_succ,← Int.mul_assoc]
    exact Int.dvd_mul_right _ _
  | r p hp => trivial
theorem Sz.b1 {n:Nat} {x:κ.F} (hn:κ = .q → n ≤ 70) (h:Sz κ n x):B1 κ x:=by
  cases κ with
  | q =>
    have hn:=hn rfl
    exact ⟨h.2.up (by omega),(ZgV h.1).up (by omega)⟩
  | r p hp => trivial
theorem Sc.b1 {x:κ.F} (h:Sc κ x):B1 κ x:=by
  cases κ with
  | q =>
    refine ⟨h.2.up (by decide),?_⟩
    have:((x.den:Nat):Int) ∣ 60 * 12 ^ 1:=Int.dvd_trans h.1 (by decide)
    exact (ZgV this).up (by decide)
  | r p hp => trivial
theorem AllR.getD {Pr:κ.F → Prop} {R:List (List κ.F)} (h:AllR Pr R) (i:Nat):∀ x ∈ R.getD i [],Pr x:=fun x hx => by
  rw [List.getD_eq_getElem?_getD] at hx
  cases e:R[i]? with
  | none => rw [e] at hx; cases hx
  | some f => rw [e] at hx; exact h f (List.mem_of_getElem? e) x hx
theorem AllR.set {Pr:κ.F → Prop} {R:List (List κ.F)} {i:Nat} {f:List κ.F} (h:AllR Pr R) (g:∀ x ∈ f,Pr x):AllR Pr (R.set i f):=fun e he => by
  rcases List.mem_or_eq_of_mem_set he with he | rfl
  · exact h e he
  · exact g
end
structure TU (κ:KX) (H:Hp) (U:Addr) (n:Nat) (tvs:List V) (ts:List (Tn κ)):Prop where
  l:H U = some (.lst tvs)
  al:AllG (TR κ H) tvs ts
  ok:∀ t ∈ ts,t.ok n
  sc:∀ t ∈ ts,TSc t
  l1:1 ≤ ts.length
  l3:ts.length ≤ 300
  lq:κ = .q → ts.length ≤ 64
theorem TU.same {κ:KX} {H H':Hp} {U:Addr} {n:Nat} {tvs:List V} {ts:List (Tn κ)} (h:TU κ H U n tvs ts) (S:Same H H'):TU κ H' U n tvs ts:=⟨S _ _ h.l,h.al.mono fun _ _ n => n.same S,h.ok,h.sc,h.l1,h.l3,h.lq⟩
theorem Zd6 (xs:List V) (n:Nat):Zfq xs none (some (n:Int)) = xs.take n:=by
  unfold Zfq
  rw [HT.sIx_none,List.drop_zero,Nat.sub_zero]
  rw [HT.sIx_nat,Nat.min_def]
  split
  · rfl
  · rw [List.take_of_length_le (Nat.le_refl _),List.take_of_length_le (by omega)]
theorem Zc1 (xs:List V) (n:Nat):Zfq xs (some (n:Int)) none = xs.drop n:=by
  unfold Zfq
  rw [HT.sIx_none,HT.sIx_nat]
  by_cases h:n ≤ xs.length
  · rw [Nat.min_eq_left h,List.take_of_length_le]
    rw [List.length_drop]
    omega
  · rw [Nat.min_eq_right (by omega),List.drop_of_length_le (by omega),List.drop_of_length_le (by omega)]
    simp
end My
namespace My
open PySem L2 PyProof.Rows
theorem Ze5 {α:Type} [Fd α] {x r:α} (h:x * r = 1):r = Fd.inv x:=by
  have hx:x ≠ 0:=fun z => by
    subst z
    have e:(0:α) * r = 0:=by grind
    rw [e] at h
    exact Fd.zne h
  have:=Fd.mul_inv x hx
  grind
theorem ZfJ {n d:Int} (fc:Fc n d):∃ q:Rat,q.num = n ∧ (q.den:Int) = d:=by
  have hd:=fc.pos
  refine ⟨⟨n,d.toNat,by omega,?_⟩,rfl,by show ((d.toNat:Nat):Int) = d; omega⟩
  have:=fc.cop
  rw [Nat.coprime_iff_gcd_eq_one]
  have e:Int.gcd n d = Nat.gcd n.natAbs d.natAbs:=rfl
  have e2:d.natAbs = d.toNat:=by omega
  rw [← e2]
  omega
theorem ZkM {q:Rat} {x y:Int} (fc:Fc x y) (e:x * q.num = q.den * y):(Fd.inv q:Rat).num = x ∧ ((Fd.inv q:Rat).den:Int) = y:=by
  obtain ⟨r,e1,e2⟩:=ZfJ fc
  have m:=Zit (x:=q) (y:=r) (n:=1) (d:=1) ⟨by decide,by decide⟩ (by rw [e1,e2]; have:q.num * x = x * q.num:=Int.mul_comm _ _; omega)
  have h1:q * r = 1:=by
    rw [← Rat.num_divInt_den (q * r),m.1,m.2]; rfl
  have:=Ze5 (α:=Rat) h1
  rw [← this]
  exact ⟨e1,e2⟩
theorem ZkN {x y:Rat} {n d:Int} (fc:Fc n d) (e:n * ((x.den:Int) * y.den) = (x.num * y.den + (-y.num) * x.den) * d):(x - y).num = n ∧ ((x - y).den:Int) = d:=by
  have h1:(-y).num = -y.num:=rfl
  have h2:(-y).den = y.den:=rfl
  have:x - y = x + (-y):=by grind
  rw [this]
  refine Zis (x:=x) (y:=-y) fc ?_
  rw [h1,h2]; exact e
theorem ZlB {κ:KX} {n m:Nat} {x:κ.F} (h:Bd κ n m x):Bd κ n m (0 - x):=by
  cases κ with
  | r p hp => exact trivial
  | q =>
    have e:(0 - x:Rat) = -x:=by grind
    have h1:(-x:Rat).num = -Rat.num x:=rfl
    have h2:(-x:Rat).den = Rat.den x:=rfl
    refine ⟨?_,?_⟩
    · show Bits n (0 - x:Rat).num
      rw [e,h1]; exact Bits.le h.1 (by omega)
    · show Bits m ((0 - x:Rat).den:Int)
      rw [e,h2]; exact h.2
noncomputable abbrev KX.mulF (κ:KX) (x y:κ.F):κ.F:=x * y
noncomputable abbrev KX.invF (κ:KX) (x:κ.F):κ.F:=Fd.inv x
theorem Ziz {κ:KX} {x r:κ.F} (h:κ.mulF x r = K1 κ):r = κ.invF x:=Ze5 h
def NumV (κ:KX) (t:Int) (x:κ.F):Prop:=match κ with
  | .q => x.num = t ∧ x.den = 1
  | .r p _ => t.natAbs ≤ 10 ^ 140 ∧ (x.val:Int) = t % p
theorem Zgi {κ:KX}:NumV κ 0 0:=by
  cases κ with
  | q => exact ⟨rfl,rfl⟩
  | r p h => exact ⟨by decide,by show ((Fin.val (K0 (.r p h)):Nat):Int) = _; rw [ZcA]; simp⟩
theorem Zgj {κ:KX}:NumV κ 1 1:=by
  cases κ with
  | q => exact ⟨rfl,rfl⟩
  | r p h => exact ⟨by decide,by
      show ((Fin.val (K1 (.r p h)):Nat):Int) = _
      rw [Zgh]
      have:=h.two
      exact (Int.emod_eq_of_lt (by decide) (by omega)).symm⟩
theorem NumV.uniq {κ:KX} {t:Int} {x y:κ.F} (h:NumV κ t x) (h':NumV κ t y):x = y:=by
  cases κ with
  | q =>
    have e1:Rat.num x = Rat.num y:=h.1.trans h'.1.symm
    have e2:Rat.den x = Rat.den y:=h.2.trans h'.2.symm
    exact Rat.ext e1 e2
  | r p hp =>
    refine Fin.ext ?_
    have e:(Fin.val x:Int) = Fin.val y:=h.2.trans h'.2.symm
    omega
def ZlC (P:Program) (w:World) (K:PySem.W.Frag) (mg:Str → Option Value) (base:Heap) (CF CR:Addr):Prop :=
  ∀ (κ:KX) (H:Hp) (s:Addr),KdX CF CR κ H s → ∃ C dx fs ps dvs sp,H s = some (.ins C dx fs) ∧ Cls K C ∧ HasM P w K mg base C "minus" 3 ps dvs sp ∧ fs.lookup ("minus" : Str) = none ∧ dvs = [] ∧
    ∀ (H':Hp) (u v:V) (x y:κ.F) (Q:VK),Same H H' → NR κ H' u x → NR κ H' v y → B1 κ x → B1 κ y → (∀ t H'',Same H' H'' → NR κ H'' t (x - y) → Q t H'') → sp [.ref s,u,v] H' Q E0
def ZiA (P:Program) (w:World) (K:PySem.W.Frag) (mg:Str → Option Value) (base:Heap) (CF CR:Addr):Prop :=
  ∀ (κ:KX) (H:Hp) (s:Addr),KdX CF CR κ H s → ∃ C dx fs ps dvs sp,H s = some (.ins C dx fs) ∧ Cls K C ∧ HasMX P w K mg base C "number" 3 ps dvs sp ∧ fs.lookup ("number" : Str) = none ∧ dvs = [.int 1] ∧
    ∀ (H':Hp) (t:Int) (x:κ.F) (Q:VK) (E:XK),Same H H' → NumV κ t x → (∀ v H'',Same H' H'' → NR κ H'' v x → Q v H'') → sp [.ref s,.int t,.int 1] H' Q E
def ZgW (P:Program) (w:World) (K:PySem.W.Frag) (mg:Str → Option Value) (base:Heap) (CF CR:Addr):Prop :=
  ∀ (κ:KX) (H:Hp) (s:Addr),KdX CF CR κ H s → ∃ C dx fs ps dvs sp,H s = some (.ins C dx fs) ∧ Cls K C ∧ HasMX P w K mg base C "back" 4 ps dvs sp ∧ fs.lookup ("back" : Str) = none ∧ dvs = [] ∧
    ∀ (H':Hp) (u:V) (x:κ.F) (Q:VK) (E:XK),Same H H' → NR κ H' u x → x ≠ 0 → (∀ v H'',Same H' H'' → NR κ H'' v (Fd.inv x) → Q v H'') → sp [.ref s,u] H' Q E
section
variable {P:Program} {w:World} {K:PySem.W.Frag} {mg:Str → Option Value} {base:Heap} {CF CR cN:Addr}
theorem Zhw (kd:Kd K mg CF CR) (hF:HasM P w K mg base CF "minus" 3 ["self", "one", "other"] [] (Zez K CF)) (hR:HasM P w K mg base CR "minus" 3 ["self", "one", "other"] [] (Zey CR fun a b => a - b)):ZlC P w K mg base CF CR:=by
  intro κ H s hk
  cases κ with
  | q =>
    obtain ⟨dx,h⟩:=hk
    refine ⟨CF,dx,[],_,_,_,h,kd.clF,hF,rfl,rfl,fun H' u v x y Q S hu hv bx by' k => ?_⟩
    obtain ⟨a,rfl,hu⟩:=hu
    obtain ⟨b,rfl,hv⟩:=hv
    refine ⟨s,a,b,_,_,_,_,rfl,⟨dx,S _ _ h⟩,SqT.of hu,SqT.of hv,ZaU x,ZaU y,bx.1,bx.2,by'.1,by'.2,fun t H'' n d S' ht hn fc e => ?_⟩
    obtain ⟨e1,e2⟩:=ZkN (x:=x) (y:=y) fc e
    refine k (.ref t) H'' S' ⟨t,rfl,?_⟩
    show H'' t = some (.tup [.int (x - y:Rat).num,.int ((x - y:Rat).den:Int)])
    rw [e1,e2]
    exact ht
  | r p hp =>
    obtain ⟨dx,h⟩:=hk
    refine ⟨CR,dx,fsR p,_,_,_,h,kd.clR,hR,ZcE _ (by decide),rfl,fun H' u v x y Q S hu hv _ _ k => ?_⟩
    have hu:u = .int x.val:=hu
    have hv:v = .int y.val:=hv
    subst hu hv
    refine ⟨s,p,_,_,rfl,⟨dx,S _ _ h⟩,by have:=hp.two; omega,ZaO hp x,ZaO hp y,k _ H' (Same.refl _) ?_⟩
    show V.int (((x.val:Int) - y.val) % p) = V.int ((Fin.val (x - y):Nat):Int)
    have e:Fin.val (x - y) = (p - y.val + x.val) % p:=rfl
    have ly:=y.isLt
    have e2:(((p - y.val + x.val:Nat)):Int) = ((x.val:Int) - y.val) + p:=by omega
    rw [e,Int.natCast_emod,e2,Int.add_emod_right]
theorem Zgk (kd:Kd K mg CF CR) (hF:HasMX P w K mg base CF "number" 3 ["self", "top", "bottom"] [.int 1] (ZbU cN)) (hR:HasMX P w K mg base CR "number" 3 ["self", "top", "bottom"] [.int 1] (Zby CR cN)):ZiA P w K mg base CF CR:=by
  intro κ H s hk
  cases κ with
  | q =>
    obtain ⟨dx,h⟩:=hk
    refine ⟨CF,dx,[],_,_,_,h,kd.clF,hF,rfl,rfl,fun H' t x Q E S hx k => ⟨s,t,1,rfl,by decide,fun z => absurd z (by decide),fun _ r n d nr fc e l1 l2 => ?_⟩⟩
    have y1:d = 1:=by
      have:=fc.pos
      have l3:d.natAbs ≤ 1:=l2
      omega
    subst y1
    have x1:n = t:=by omega
    subst x1
    have e1:Rat.num x = n:=hx.1
    have e2:Rat.den x = 1:=hx.2
    refine k _ _ (Zah nr _) ⟨r,rfl,?_⟩
    show upd H' r _ r = some (.tup [.int (Rat.num x),.int ((Rat.den x:Nat):Int)])
    rw [e1,e2]; exact Zaf
  | r p hp =>
    obtain ⟨dx,h⟩:=hk
    have h2:=hp.pr.1
    refine ⟨CR,dx,_,_,_,_,h,kd.clR,hR,ZcE p (by decide),rfl,fun H' t x Q E S hx k => ⟨s,p,t,1,rfl,⟨dx,S _ _ h⟩,hp.pr,by have:=hp.lt; omega,hx.1,by decide,fun z => ?_,fun _ H'' r S' r0 r1 rd => ?_⟩⟩
    · have:=Int.le_of_dvd (by decide) z
      omega
    · refine k _ H'' S' ?_
      show V.int r = V.int ((Fin.val x:Nat):Int)
      have e:(Fin.val x:Int) = t % p:=hx.2
      rw [e]
      congr 1
      rw [Int.mul_one] at rd
      have e3:r % p = t % p:=Int.emod_eq_emod_iff_emod_sub_eq_zero.mpr (Int.emod_eq_zero_of_dvd rd)
      rw [← e3]
      exact (Int.emod_eq_of_lt r0 r1).symm
theorem ZiB (kd:Kd K mg CF CR) (hF:HasMX P w K mg base CF "back" 4 ["self", "one"] [] (ZgP K cN)) (hR:HasMX P w K mg base CR "back" 4 ["self", "one"] [] (ZgQ CR cN)):ZgW P w K mg base CF CR:=by
  intro κ H s hk
  cases κ with
  | q =>
    obtain ⟨dx,h⟩:=hk
    refine ⟨CF,dx,[],_,_,_,h,kd.clF,hF,rfl,rfl,fun H' u x Q E S hu hx k => ?_⟩
    obtain ⟨a,rfl,hu⟩:=hu
    have hn:Rat.num x ≠ 0:=fun z => hx (Rat.num_eq_zero.mp z)
    refine ⟨s,a,_,_,rfl,SqT.of hu,ZaU x,fun z => absurd z hn,fun _ r n d nr fc e l1 l2 => ?_⟩
    obtain ⟨e1,e2⟩:=ZkM (q:=x) fc e
    refine k _ _ (Zah nr _) ⟨r,rfl,?_⟩
    show upd H' r _ r = some (.tup [.int (Fd.inv x:Rat).num,.int ((Fd.inv x:Rat).den:Int)])
    rw [e1,e2]; exact Zaf
  | r p hp =>
    obtain ⟨dx,h⟩:=hk
    have h2:=hp.two
    refine ⟨CR,dx,_,_,_,_,h,kd.clR,hR,ZcE p (by decide),rfl,fun H' u x Q E S hu hx k => ?_⟩
    have hu:u = .int x.val:=hu
    subst hu
    have xl:=x.isLt
    have x0:x.val ≠ 0:=fun z => hx (show x = K0 (.r p hp) from Fin.ext (by rw [ZcA]; exact z))
    have nd:¬ (p:Int) ∣ (x.val:Int):=fun z => by
      have:=Int.le_of_dvd (by omega) z
      omega
    refine ⟨s,p,_,rfl,⟨dx,S _ _ h⟩,hp.pr,by have:=hp.lt; omega,Nat.le_trans (show _ ≤ 1000000 by have:=hp.lt; omega) (by decide),fun z => absurd z nd,fun _ H'' r S' r0 r1 rd => ?_⟩
    refine k _ H'' S' ?_
    have hy:(KX.r p hp).mulF x (⟨r.toNat,by omega⟩:Fin p) = K1 (.r p hp):=by
      refine Fin.ext ?_
      show Fin.val ((x:Fin p) * (⟨r.toNat,by omega⟩:Fin p)) = Fin.val (K1 (.r p hp))
      rw [Zgh,Fin.val_mul]
      show x.val * r.toNat % p = 1
      have e:((x.val * r.toNat % p:Nat):Int) = ((1:Nat):Int):=by
        rw [Int.natCast_emod,Int.natCast_mul,Int.toNat_of_nonneg r0]
        have e3:r * (x.val:Int) % p = 1 % p:=Int.emod_eq_emod_iff_emod_sub_eq_zero.mpr (Int.emod_eq_zero_of_dvd rd)
        rw [Int.mul_comm,e3]
        exact Int.emod_eq_of_lt (by decide) (by omega)
      exact_mod_cast e
    have:=Ziz (κ:=.r p hp) hy
    show V.int r = V.int ((Fin.val ((KX.r p hp).invF x):Nat):Int)
    rw [show (KX.r p hp).invF x = _ from this.symm]
    show V.int r = V.int ((r.toNat:Nat):Int)
    rw [Int.toNat_of_nonneg r0]
end
end My
namespace My
open PySem L2 PyProof.Rows
theorem ZkO {κ:KX}:B1 κ 0:=by
  cases κ with
  | q => exact ⟨Bits.of (by show (0:Int).natAbs < _; exact Nat.two_pow_pos _),Bits.of (by show (1:Int).natAbs < _; exact Nat.lt_of_lt_of_le (show 1 < 2 ^ 1 by decide) (Nat.pow_le_pow_right (by decide) (by decide)))⟩
  | r p h => trivial
end My
namespace My
open PySem L2 PyProof.Rows
section
variable {P:Program} {w:World} {K:PySem.W.Frag} {mg:Str → Option Value} {base:Heap} {CF CR:Addr}
theorem Zgl (kd:Kd K mg CF CR) (hF:HasM P w K mg base CF "is_nought" 2 ["self", "one"] [] (ZeA K CF)) (hR:HasM P w K mg base CR "is_nought" 2 ["self", "one"] [] ZeB):Ziy P w K mg base CF CR:=by
  intro κ H s hk
  cases κ with
  | q =>
    obtain ⟨dx,h⟩:=hk
    refine ⟨CF,dx,[],_,_,_,h,kd.clF,hF,rfl,rfl,fun u x Q hu k => ?_⟩
    obtain ⟨a,rfl,hu⟩:=hu
    refine ⟨s,a,_,_,rfl,SqT.of hu,k _ ?_⟩
    rw [decide_eq_true_iff]
    exact Rat.num_eq_zero
  | r p hp =>
    obtain ⟨dx,h⟩:=hk
    refine ⟨CR,dx,fsR p,_,_,_,h,kd.clR,hR,ZcE _ (by decide),rfl,fun u x Q hu k => ?_⟩
    have hu:u = .int x.val:=hu
    subst hu
    refine ⟨s,_,rfl,k _ ?_⟩
    rw [decide_eq_true_iff]
    letI:=hp.nz
    have z:(0:Fin p).val = 0:=by simp
    constructor
    · intro e
      exact Fin.ext (by rw [z]; omega)
    · intro e
      have e:x = (0:Fin p):=e
      rw [e,z]; rfl
end
end My
namespace My
open PySem L2 PyProof.Rows
section
variable {κ:KX}
noncomputable def ZkP (N s n:Nat) (f:List κ.F):List κ.F:=List.replicate s 0 ++ f ++ List.replicate (N - s - n) 0
noncomputable def Zml (N:Nat):Nat → List (List (List κ.F)) → List (List κ.F)
  | _,[] => []
  | s,T :: Ts => T.map (ZkP N s T.length) ++ Zml N (s + T.length) Ts
noncomputable def Zmm (N i:Nat) (x:κ.F) (b:Bool):List κ.F:=(List.range N).map fun j => if j = i then x else if b = true ∧ j + 1 = i then 1 else 0
noncomputable def Znm (x:κ.F) (n:Nat):List (List κ.F):=(List.range n).map fun p => (List.range n).map fun c => if c = p then x else if c + 1 = p then 1 else 0
noncomputable def dsc (bl:List (κ.F × Nat)):List (κ.F × Bool):=bl.flatMap fun d => (List.range d.2).map fun k => (d.1,decide (0 < k))
noncomputable def Zne (bl:List (κ.F × Nat)):List (List κ.F):=(dsc bl).mapIdx fun i d => Zmm (dsc bl).length i d.1 d.2
noncomputable def Znf (i:Nat) (d:κ.F × Bool):List κ.F:=if d.2 = true then (List.replicate i 0 ++ [d.1]).set (i - 1) 1 else List.replicate i 0 ++ [d.1]
noncomputable def Zng (ds:List (κ.F × Bool)):List (List κ.F):=ds.mapIdx Znf
end
def BR (κ:KX) (H:Hp) (v:V) (d:κ.F × Nat):Prop:=∃ a u,v = .ref a ∧ H a = some (.tup [u,.int (d.2:Int)]) ∧ NR κ H u d.1
theorem BR.same {κ:KX} {H H':Hp} {v:V} {d:κ.F × Nat} (h:BR κ H v d) (S:Same H H'):BR κ H' v d:=by
  obtain ⟨a,u,e,h,n⟩:=h; exact ⟨a,u,e,S _ _ h,n.same S⟩
theorem BR.off {κ:KX} {H H':Hp} {D:List Addr} {v:V} {d:κ.F × Nat} (h:BR κ H v d) (O:Off D H H') (hD:∀ a ∈ D,∀ zs,H a ≠ some (.tup zs)):BR κ H' v d:=by
  obtain ⟨a,u,e,h,n⟩:=h
  refine ⟨a,u,e,O _ _ (fun z => hD a z _ h) h,?_⟩
  cases κ with
  | q => obtain ⟨b,e,n⟩:=n; exact ⟨b,e,O _ _ (fun z => hD b z _ n) n⟩
  | r p hp => exact n
def BD {κ:KX} (d:κ.F × Nat):PyData:=.tuple [κ.D d.1,.int (d.2:Int)]
theorem BR.rp {κ:KX} {H:Hp} {v:V} {d:κ.F × Nat} (h:BR κ H v d):Rp H 2 v (BD d):=by
  obtain ⟨a,u,rfl,h,n⟩:=h
  exact ZfF h (.cons n.rp (.cons (.inl Zb8) .nil))
def PartsX (κ:KX) (H:Hp) (ps:List Addr) (Ts:List (List (List κ.F))):Prop:=ps.length = Ts.length ∧ ∀ (i:Nat) a T,ps[i]? = some a → Ts[i]? = some T → ∃ rs:List Addr,H a = some (.lst (rs.map V.ref)) ∧ RowsX κ H rs T
theorem PartsX.same {κ:KX} {H H':Hp} {ps:List Addr} {Ts:List (List (List κ.F))} (h:PartsX κ H ps Ts) (S:Same H H'):PartsX κ H' ps Ts:=⟨h.1,fun i a T ha hT => let ⟨rs,h1,h2⟩:=h.2 i a T ha hT; ⟨rs,S _ _ h1,h2.same S⟩⟩
theorem PartsX.nil {κ:KX} {H:Hp}:PartsX κ H [] []:=⟨rfl,fun i a f h => by simp at h⟩
theorem PartsX.snoc {κ:KX} {H:Hp} {ps:List Addr} {Ts:List (List (List κ.F))} {a:Addr} {rs:List Addr} {T:List (List κ.F)} (h:PartsX κ H ps Ts) (ha:H a = some (.lst (rs.map V.ref))) (hr:RowsX κ H rs T):PartsX κ H (ps ++ [a]) (Ts ++ [T]):=by
  have l:=h.1
  refine ⟨by rw [List.length_append,List.length_append,l]; rfl,fun i b g hb hg => ?_⟩
  by_cases hi:i < ps.length
  · rw [List.getElem?_append_left hi] at hb
    rw [List.getElem?_append_left (by omega)] at hg
    exact h.2 i b g hb hg
  · rw [List.getElem?_append_right (by omega)] at hb hg
    rw [← l] at hg
    cases q:i - ps.length with
    | zero => rw [q] at hb hg; cases hb; cases hg; exact ⟨rs,ha,hr⟩
    | succ n => rw [q] at hb; simp at hb
end My
namespace My
open PySem L2 PyProof.Rows
theorem RowsX.cat {κ:KX} {H:Hp} {as bs:List Addr} {R S:List (List κ.F)} (h:RowsX κ H as R) (g:RowsX κ H bs S):RowsX κ H (as ++ bs) (R ++ S):=by
  have l:=h.1
  have l2:=g.1
  refine ⟨by rw [List.length_append,List.length_append,l,l2],fun i a f ha hf => ?_⟩
  by_cases hi:i < as.length
  · rw [List.getElem?_append_left hi] at ha
    rw [List.getElem?_append_left (by omega)] at hf
    exact h.2 i a f ha hf
  · rw [List.getElem?_append_right (by omega)] at ha hf
    rw [← l] at hf
    exact g.2 _ a f ha hf
end My
namespace L2
open PySem PySem.Spec PyProof.Rows
section
variable {X:Cx} {e st:Expr} {te ts:TE} {pos p2:Pos}
end
section
variable {X:Cx} {k:Nat}
def Znh:R2:=fun x y H Q => ∃ a b xs,x = .ref a ∧ y = .ref b ∧ H a = some (.lst xs) ∧ H b = some (.lst []) ∧ Q (.bl (decide (xs.length = 0))) H
theorem ZlD (hr:Room k X.A):OpR X (compareOp .Eq) Znh:=by
  intro pins s σ H x y v u Q I rx ry h
  obtain ⟨a,b,xs,rfl,rfl,hx,hy,q⟩:=h
  cases rx
  cases ry
  obtain ⟨its,r1,p1,_⟩:=I.list (SqL.of (K:=X.K) hx)
  obtain ⟨jts,r2,p2,_⟩:=I.list (SqL.of (K:=X.K) hy)
  have l1:=r1.length
  have l2:=r2.length
  rw [List.length_nil] at l2
  have hu:=hr.units
  by_cases h0:xs.length = 0
  · refine SeqAt.eq_listAt (e:=fun _ => true) p1.isList p2.isList (by simp; omega) (by omega) (fun j h1 h2 => by simp at h2; omega) ?_
    refine ⟨.bl true,H,I,?_,?_⟩
    · show Value.bool _ = Value.bool _
      rw [Zbh]
    · rw [decide_eq_true h0] at q; exact q
  · refine SeqAt.eq_list_lengthsAt p1.isList p2.isList (by simp; omega) (by omega) ?_
    refine ⟨.bl false,H,I,rfl,?_⟩
    rw [decide_eq_false h0] at q; exact q
end
end L2
namespace L2
open PySem PySem.Spec PyProof.Rows
section
variable {X:Cx} {tg:Expr}
end
section
variable {prog:Program} {w:World} {A:Around} {s:Shared} {R:Result → Shared → Prop}
end
section
variable {prog:Program} {w:World} {A:Around} {E:Value → Shared → Prop} {s:Shared}
end
section
variable {X:Cx} {e1:Expr} {ta:TA} {p p2 pos pos2:Pos}
end
end L2
namespace My
open PySem L2 PyProof.Rows
section
variable {κ:KX}
def QN (κ:KX) (D:Int) (M:Nat) (x:κ.F):Prop:=match κ with
  | .q => ∃ X:Int,x = Rat.divInt X D ∧ X.natAbs ≤ M
  | .r _ _ => True
theorem QN.mono {D:Int} {M N:Nat} {x:κ.F} (h:QN κ D M x) (l:M ≤ N):QN κ D N x:=by
  cases κ with
  | r p hp => exact trivial
  | q => obtain ⟨X,e,hX⟩:=h; exact ⟨X,e,Nat.le_trans hX l⟩
theorem QN.mul {D E:Int} {M N:Nat} {x y:κ.F} (h:QN κ D M x) (g:QN κ E N y):QN κ (D * E) (M * N) (x * y):=by
  cases κ with
  | r p hp => exact trivial
  | q =>
    obtain ⟨X,rfl,hX⟩:=h
    obtain ⟨Y,rfl,hY⟩:=g
    exact ⟨X * Y,Rat.divInt_mul_divInt _ _,by rw [Int.natAbs_mul]; exact Nat.mul_le_mul hX hY⟩
theorem QN.add {D:Int} (hD:0 < D) {M N:Nat} {x y:κ.F} (h:QN κ D M x) (g:QN κ D N y):QN κ D (M + N) (x + y):=by
  cases κ with
  | r p hp => exact trivial
  | q =>
    obtain ⟨X,rfl,hX⟩:=h
    obtain ⟨Y,rfl,hY⟩:=g
    refine ⟨X + Y,?_,Nat.le_trans (Int.natAbs_add_le X Y) (Nat.add_le_add hX hY)⟩
    show Rat.divInt X D + Rat.divInt Y D = _
    rw [Rat.divInt_add_divInt _ _ (by omega) (by omega),Rat.divInt_eq_divInt_iff (Int.ne_of_gt (Int.mul_pos hD hD)) (by omega),← Int.add_mul,Int.mul_assoc]
theorem QN.zero {D:Int} {M:Nat}:QN κ D M 0:=by
  cases κ with
  | r p hp => exact trivial
  | q => exact ⟨0,(Rat.zero_divInt D).symm,Nat.zero_le _⟩
theorem QN.b1 {D:Int} (hD:0 < D) (lD:D.natAbs < 2 ^ 3000) {M:Nat} (lM:M < 2 ^ 3000) {x:κ.F} (h:QN κ D M x):B1 κ x:=by
  cases κ with
  | r p hp => exact trivial
  | q =>
    obtain ⟨X,rfl,hX⟩:=h
    obtain ⟨d1,d2⟩:=Zd4 X hD
    refine ⟨?_,?_⟩
    · show Bits 1000000 (Rat.divInt X D).num
      exact ZgR d2 ((Bits.of (n:=3000) (Nat.lt_of_le_of_lt hX lM)).up (by decide)) (ZgS X hD)
    · show Bits 4000 ((Rat.divInt X D).den:Int)
      exact ZgR d1 ((Bits.of (n:=3000) lD).up (by decide)) (fun z => by omega)
theorem ZiC {κ:KX}:QN κ 1 1 1:=by
  cases κ with
  | r p hp => exact trivial
  | q => exact ⟨1,rfl,Nat.le_refl _⟩
theorem ZmH {t b:Int} (h0:1 ≤ b) (h:b ≤ 4) (ht:t.natAbs ≤ 9):QN .q 12 108 (Rat.divInt t b):=by
  rcases (by omega:b = 1 ∨ b = 2 ∨ b = 3 ∨ b = 4) with rfl | rfl | rfl | rfl
  · exact ⟨t * 12,by rw [Rat.divInt_eq_divInt_iff (by decide) (by decide)]; omega,by omega⟩
  · exact ⟨t * 6,by rw [Rat.divInt_eq_divInt_iff (by decide) (by decide)]; omega,by omega⟩
  · exact ⟨t * 4,by rw [Rat.divInt_eq_divInt_iff (by decide) (by decide)]; omega,by omega⟩
  · exact ⟨t * 3,by rw [Rat.divInt_eq_divInt_iff (by decide) (by decide)]; omega,by omega⟩
noncomputable def pI (F G:List κ.F) (i:Nat):Nat → Nat → κ.F
  | 0,_ => 0
  | j + 1,k => pI F G i j k + (if i + j = k then F.getD i 0 * G.getD j 0 else 0)
noncomputable def pO (F G:List κ.F):Nat → Nat → κ.F
  | 0,_ => 0
  | i + 1,k => pO F G i k + pI F G i G.length k
noncomputable def ZcB (F G:List κ.F) (i j:Nat):List κ.F:=(List.range (F.length + G.length)).map fun k => pO F G i k + pI F G i j k
theorem ZaW (F G:List κ.F) (i j:Nat):(ZcB F G i j).length = F.length + G.length:=by unfold ZcB; simp
theorem ZgX {F G:List κ.F} {i j k:Nat} (h:k < F.length + G.length):(ZcB F G i j).getD k 0 = pO F G i k + pI F G i j k:=by
  unfold ZcB
  rw [List.getD_eq_getElem?_getD,List.getElem?_map,List.getElem?_range h]; rfl
theorem Zd7 {F G:List κ.F} {i j k:Nat} (h:k < (ZcB F G i j).length):(ZcB F G i j)[k] = pO F G i k + pI F G i j k:=by simp [ZcB]
theorem add00 {κ:KX}:(0:κ.F) + 0 = 0:=by grind
theorem ZlE (F G:List κ.F):ZcB F G 0 0 = List.replicate (F.length + G.length) 0:=by
  apply List.ext_getElem (by rw [ZaW,List.length_replicate])
  intro k h1 h2
  rw [Zd7,List.getElem_replicate]
  exact add00
theorem Zjx (F G:List κ.F) (i:Nat):ZcB F G i G.length = ZcB F G (i + 1) 0:=by
  unfold ZcB
  congr 1
  funext k
  show pO F G i k + pI F G i G.length k = (pO F G i k + pI F G i G.length k) + 0
  grind
theorem ZiD {F G:List κ.F} {i j:Nat} (hi:i < F.length) (hj:j < G.length):ZcB F G i (j + 1) = (ZcB F G i j).set (i + j) ((ZcB F G i j).getD (i + j) 0 + F.getD i 0 * G.getD j 0):=by
  rw [ZgX (by omega)]
  apply List.ext_getElem (by rw [List.length_set,ZaW,ZaW])
  intro k h1 h2
  rw [List.getElem_set,Zd7,Zd7]
  show pO F G i k + (pI F G i j k + (if i + j = k then F.getD i 0 * G.getD j 0 else 0)) = _
  by_cases e:i + j = k
  · subst e
    rw [if_pos rfl,if_pos rfl]; grind
  · rw [if_neg e,if_neg e]; grind
theorem ZkQ {F G:List κ.F} {D E:Int} {M N:Nat} (hDE:0 < D * E) (hF:∀ x ∈ F,QN κ D M x) (hG:∀ x ∈ G,QN κ E N x) (i:Nat) (hi:i < F.length):∀ (j k:Nat),j ≤ G.length → QN κ (D * E) (j * (M * N)) (pI F G i j k)
  | 0,k,_ => QN.zero
  | j + 1,k,h => by
    have ih:=ZkQ hDE hF hG i hi j k (by omega)
    have e:(j + 1) * (M * N) = j * (M * N) + M * N:=Nat.succ_mul _ _
    rw [e]
    refine QN.add hDE ih ?_
    split
    · have a:F.getD i 0 ∈ F:=by rw [List.getD_eq_getElem?_getD,List.getElem?_eq_getElem hi]; exact List.getElem_mem hi
      have b:G.getD j 0 ∈ G:=by rw [List.getD_eq_getElem?_getD,List.getElem?_eq_getElem (show j < G.length by omega)]; exact List.getElem_mem _
      exact QN.mul (hF _ a) (hG _ b)
    · exact QN.zero
theorem ZkR {F G:List κ.F} {D E:Int} {M N:Nat} (hDE:0 < D * E) (hF:∀ x ∈ F,QN κ D M x) (hG:∀ x ∈ G,QN κ E N x):∀ (i k:Nat),i ≤ F.length → QN κ (D * E) (i * (G.length * (M * N))) (pO F G i k)
  | 0,k,_ => QN.zero
  | i + 1,k,h => by
    have e:(i + 1) * (G.length * (M * N)) = i * (G.length * (M * N)) + G.length * (M * N):=Nat.succ_mul _ _
    rw [e]
    exact QN.add hDE (ZkR hDE hF hG i k (by omega)) (ZkQ hDE hF hG i (by omega) _ k (Nat.le_refl _))
theorem ZkS {F G:List κ.F} {D E:Int} {M N:Nat} (hDE:0 < D * E) (hF:∀ x ∈ F,QN κ D M x) (hG:∀ x ∈ G,QN κ E N x) {i j:Nat} (hi:i < F.length) (hj:j ≤ G.length):∀ x ∈ ZcB F G i j,QN κ (D * E) (F.length * (G.length * (M * N))) x:=fun x hx => by
  unfold ZcB at hx
  obtain ⟨k,_,rfl⟩:=List.mem_map.mp hx
  refine (QN.add hDE (ZkR hDE hF hG i k (by omega)) (ZkQ hDE hF hG i hi j k hj)).mono ?_
  have a:j * (M * N) ≤ G.length * (M * N):=Nat.mul_le_mul_right _ hj
  have b:(i + 1) * (G.length * (M * N)) ≤ F.length * (G.length * (M * N)):=Nat.mul_le_mul_right _ hi
  rw [Nat.succ_mul] at b
  omega
theorem Zjy {F G:List κ.F} {D E:Int} {M N:Nat} (hDE:0 < D * E) (hF:∀ x ∈ F,QN κ D M x) (hG:∀ x ∈ G,QN κ E N x):∀ x ∈ ZcB F G F.length 0,QN κ (D * E) (F.length * (G.length * (M * N))) x:=fun x hx => by
  unfold ZcB at hx
  obtain ⟨k,_,rfl⟩:=List.mem_map.mp hx
  exact (QN.add hDE (ZkR hDE hF hG F.length k (Nat.le_refl _)) (QN.zero (M:=0))).mono (Nat.le_refl _)
theorem ZlF {F G:List κ.F} {i k:Nat}:∀ {j:Nat},i + j ≤ k → pI F G i j k = 0
  | 0,_ => rfl
  | j + 1,h => by
    show pI F G i j k + (if i + j = k then F.getD i 0 * G.getD j 0 else 0) = 0
    rw [ZlF (by omega),if_neg (by omega)]; exact add00
theorem ZlG {F G:List κ.F} {k:Nat}:∀ {i:Nat},i + G.length ≤ k + 1 → pO F G i k = 0
  | 0,_ => rfl
  | i + 1,h => by
    show pO F G i k + pI F G i G.length k = 0
    rw [ZlG (by omega),ZlF (by omega)]; exact add00
theorem ZiE {F G:List κ.F} {k:Nat} (h:F.length + G.length ≤ k + 1):pO F G F.length k = 0:=ZlG h
noncomputable def Zni (f:List κ.F) (d i:Nat):List κ.F:=(List.range d).map fun c => if c + 1 = d then 0 - f.getD i 0 else if c + 1 = i then 1 else 0
noncomputable def Znn (f:List κ.F):List (List κ.F):=(List.range (f.length - 1)).map fun i => Zni f (f.length - 1) i
noncomputable def atE:List (List κ.F) → Nat → Nat → Nat → κ.F
  | [],_,_,_ => 0
  | f :: fs,s,i,j => if s ≤ i ∧ i < s + (f.length - 1) ∧ j + 1 = s + (f.length - 1) then 0 - f.getD (i - s) 0 else if s ≤ i ∧ i < s + (f.length - 1) ∧ s ≤ j then (if i = j + 1 then 1 else 0) else atE fs (s + (f.length - 1)) i j
end
end My
namespace My
open PySem L2 PyProof.Rows
theorem Zhx {p:Int} (h:p = 2 ∨ p = 3 ∨ p = 5 ∨ p = 7 ∨ p = 11 ∨ p = 97):M2.Prm p:=by
  refine ⟨by omega,fun d h1 h2 hd => ?_⟩
  have hl:d < 10:=by
    refine Int.lt_of_not_ge fun z => ?_
    have:=M2.sq_mono (a:=10) (by omega) z
    omega
  have e:=Int.emod_eq_zero_of_dvd hd
  have s2:=M2.sq_mono (a:=2) (by omega) h1
  rcases (by omega:d = 2 ∨ d = 3 ∨ d = 4 ∨ d = 5 ∨ d = 6 ∨ d = 7 ∨ d = 8 ∨ d = 9) with rfl | rfl | rfl | rfl | rfl | rfl | rfl | rfl <;> omega
theorem Zmn (c:Int):∃ m:Int,atI [V.int 2,V.int 3,V.int 5,V.int 7,V.int 11,V.int 97] (c / 3 % 6) = some (.int m) ∧ PK m:=by
  rcases (by omega:c / 3 % 6 = 0 ∨ c / 3 % 6 = 1 ∨ c / 3 % 6 = 2 ∨ c / 3 % 6 = 3 ∨ c / 3 % 6 = 4 ∨ c / 3 % 6 = 5) with e | e | e | e | e | e <;> rw [e]
  · exact ⟨2,rfl,.inr ⟨Zhx (by omega),by decide⟩⟩
  · exact ⟨3,rfl,.inr ⟨Zhx (by omega),by decide⟩⟩
  · exact ⟨5,rfl,.inr ⟨Zhx (by omega),by decide⟩⟩
  · exact ⟨7,rfl,.inr ⟨Zhx (by omega),by decide⟩⟩
  · exact ⟨11,rfl,.inr ⟨Zhx (by omega),by decide⟩⟩
  · exact ⟨97,rfl,.inr ⟨Zhx (by omega),by decide⟩⟩
def Zd8:Sp:=fun vs H Q _ => ∃ n:Int,vs = [.int n] ∧ 2 ≤ n ∧ n ≤ 999983 ∧ ∀ p:Int,PK p → Q (.int p) H
def Zc2:Sp:=fun vs H Q _ => ∃ c:Int,vs = [.int c] ∧ ∀ (H':Hp) (p:Int),Same H H' → PK p → Q (.int p) H'
def Za2:Sp:=fun vs H Q _ => ∃ (κ:KX) (t:Int) (x:κ.F),vs = [.int κ.P,.int t] ∧ NumV κ t x ∧ ∀ H' v,Same H H' → NR κ H' v x → Q v H'
def Zdr:Sp:=fun vs H Q _ => ∃ (κ:KX) (u:V) (x:κ.F),vs = [.int κ.P,u] ∧ NR κ H u x ∧ Q (.bl true) H
theorem Zj2 {p:Prop} [Decidable p] {Q:V → Hp → Prop} {H:Hp} (h:p) (k:Q (.bl true) H):Q (.bl (decide p)) H:=by rw [decide_eq_true h]; exact k
end My
namespace My
open PySem L2 PyProof.Rows
theorem Zjz {n:Nat} (h:1 ≤ n):ixN n (-1) = some (n - 1):=by
  unfold ixN
  rw [if_neg (by decide),if_pos (by omega)]
  congr 1
  omega
theorem Zct {κ:KX} {l:List κ.F} {i:Nat} (h:i < l.length):l[i]? = some (l.getD i 0):=by
  rw [List.getD_eq_getElem?_getD,List.getElem?_eq_getElem h]; rfl
theorem Zbr {κ:KX} {H:Hp} {xs:List V} {f:List κ.F} (h:AllG (NR κ H) xs f) {i:Nat} (hi:i < f.length):∃ v,xs[i]? = some v ∧ NR κ H v (f.getD i 0):=by
  obtain ⟨v,hv⟩:=Zci (Zct hi) h.1.symm
  obtain ⟨x,hx,nx⟩:=h.get hv
  rw [Zct hi] at hx
  cases hx
  exact ⟨v,hv,nx⟩
end My
namespace My
open PySem L2 PyProof.Rows
def ZeC:Sp:=fun vs H Q _ => ∃ c j:Int,vs = [.int c,.int j] ∧ j.natAbs ≤ 1000 ∧ ∀ m:Int,Q (.int m) H
def Zd9:Sp:=fun vs H Q _ => ∃ (κ:KX) (c:Int),vs = [.int κ.P,.int c] ∧ ∀ H' v (x:κ.F),Same H H' → NR κ H' v x → QN κ 12 108 x → Q v H'
def Zc3:Sp:=fun vs H Q _ => ∃ (κ:KX) (a:Addr) (xs:List V) (g:List κ.F),vs = [.int κ.P,.ref a] ∧ H a = some (.lst xs) ∧ AllG (NR κ H) xs g ∧
  ∀ (H':Hp) (D:Addr) (r:Nat),Same H H' → H' D = some (.lst (xs.take r)) → r ≤ g.length → (∀ j,r ≤ j → g.getD j 0 = 0) → (r = 0 ∨ g.getD (r - 1) 0 ≠ 0) → (D = a ∨ H D = none) → Q (.ref D) H'
def Za9:Sp:=fun vs H Q _ => ∃ (κ:KX) (fa ga:Addr) (xs ys:List V) (F G:List κ.F) (D E:Int) (M N:Nat),vs = [.int κ.P,.ref fa,.ref ga] ∧ H fa = some (.lst xs) ∧ H ga = some (.lst ys) ∧ AllG (NR κ H) xs F ∧ AllG (NR κ H) ys G ∧ F.length ≤ 100 ∧ G.length ≤ 100 ∧
  (∀ x ∈ F,QN κ D M x) ∧ (∀ x ∈ G,QN κ E N x) ∧ 0 < D ∧ 0 < E ∧ (D.natAbs < 2 ^ 3000 ∧ E.natAbs < 2 ^ 3000 ∧ M < 2 ^ 3000 ∧ N < 2 ^ 3000 ∧ (D * E).natAbs < 2 ^ 3000) ∧ F.length * (G.length * (M * N)) < 2 ^ 3000 ∧
  ∀ (H':Hp) (R:Addr) (zs:List V) (r:Nat),Same H H' → H' R = some (.lst zs) → AllG (NR κ H') zs ((ZcB F G F.length 0).take r) → r ≤ F.length + G.length → (∀ j,r ≤ j → (ZcB F G F.length 0).getD j 0 = 0) → (r = 0 ∨ (ZcB F G F.length 0).getD (r - 1) 0 ≠ 0) → H R = none → Q (.ref R) H'
theorem Zbw {κ:KX} {H:Hp} {xs:List V} {f:List κ.F} (h:AllG (NR κ H) xs f) (r:Nat):AllG (NR κ H) (xs.take r) (f.take r):=by
  obtain ⟨l,h⟩:=h
  refine ⟨by rw [List.length_take,List.length_take,l],fun i v d hv hd => ?_⟩
  rw [List.getElem?_take] at hv hd
  by_cases c:i < r
  · rw [if_pos c] at hv hd; exact h i v d hv hd
  · rw [if_neg c] at hv; cases hv
theorem ZkT {κ:KX} {H:Hp} {u v:V} {x y:κ.F} (hu:NR κ H u x) (hv:NR κ H v y):∃ b,ZkI H u v b ∧ (b = true ↔ x = y):=by
  cases κ with
  | q =>
    obtain ⟨a,rfl,ha⟩:=hu
    obtain ⟨c,rfl,hc⟩:=hv
    refine ⟨_,.inr ⟨a,c,_,_,_,_,rfl,rfl,ha,hc,rfl⟩,?_⟩
    rw [Bool.and_eq_true_iff,decide_eq_true_iff,decide_eq_true_iff]
    constructor
    · rintro ⟨e1,e2⟩
      exact Rat.ext e1 (by omega)
    · intro e
      have e:x = y:=e
      subst e
      exact ⟨rfl,rfl⟩
  | r p hp =>
    have hu:u = .int x.val:=hu
    have hv:v = .int y.val:=hv
    refine ⟨_,.inl ⟨_,_,hu,hv,rfl⟩,?_⟩
    rw [decide_eq_true_iff]
    constructor
    · intro e; exact Fin.ext (by omega)
    · intro e
      have e:x = y:=e
      subst e; rfl
end My
namespace My
open PySem L2 PyProof.Rows
def ZlH {κ:KX} (f:List κ.F):Prop:=1 ≤ f.length ∧ f.length ≤ 8 ∧ ∀ x ∈ f,B1 κ x
structure ChOk {κ:KX} (fs:List (List κ.F)):Prop where
  l1:1 ≤ fs.length
  l7:fs.length ≤ 7
  ok:∀ f ∈ fs,ZlH f
structure Chn (κ:KX) (H:Hp) (ca:Addr) (n:Nat):Prop where
  ex:∃ (as:List Addr) (fs:List (List κ.F)),H ca = some (.lst (as.map V.ref)) ∧ RowsX κ H as fs ∧ fs.length ≤ n ∧ ∀ f ∈ fs,ZlH f
theorem Chn.same {κ:KX} {H H':Hp} {ca:Addr} {n:Nat} (h:Chn κ H ca n) (S:Same H H'):Chn κ H' ca n:=by
  obtain ⟨as,fs,h1,h2,h3⟩:=h.ex; exact ⟨as,fs,S _ _ h1,h2.same S,h3⟩
theorem RowsX.cons {κ:KX} {H:Hp} {as:List Addr} {fs:List (List κ.F)} {a:Addr} {xs:List V} {f:List κ.F} (h:RowsX κ H as fs) (ha:H a = some (.lst xs)) (al:AllG (NR κ H) xs f):RowsX κ H (a :: as) (f :: fs):=by
  have:RowsX κ H ([a] ++ as) ([f] ++ fs):=RowsX.cat (RowsX.snoc (as:=[]) (R:=[]) .nil ha al) h
  exact this
noncomputable abbrev Km1 (κ:KX):κ.F:=0 - 1
theorem ZlI {κ:KX}:NumV κ (-1) (Km1 κ):=by
  cases κ with
  | q =>
    show Rat.num (0 - 1:Rat) = -1 ∧ Rat.den (0 - 1:Rat) = 1
    have e:(0 - 1:Rat) = -1:=by grind
    rw [e]; exact ⟨rfl,rfl⟩
  | r p h => exact ⟨by decide,by
      show ((Fin.val (Km1 (.r p h)):Nat):Int) = _
      have h2:=h.two
      have e:Fin.val (Km1 (.r p h)) = (p - Fin.val (K1 (.r p h)) + Fin.val (K0 (.r p h))) % p:=rfl
      rw [e,Zgh,ZcA,Nat.add_zero,Nat.mod_eq_of_lt (by omega)]
      have:(-1:Int) % p = (p:Int) - 1:=by
        rw [← Int.add_emod_right,Int.emod_eq_of_lt (by omega) (by omega)]; omega
      rw [this]; omega⟩
theorem ZjA {κ:KX} (x:κ.F):Km1 κ * x = 0 - x:=by grind
end My
namespace My
open PySem L2 PyProof.Rows
def ZmI (κ:KX) (f:List κ.F) (A:Int):Prop:=match κ with
  | .q => 0 < A ∧ (∀ x ∈ f,((Rat.den x:Nat):Int) ∣ A) ∧ ∀ B:Int,(∀ x ∈ f,((Rat.den x:Nat):Int) ∣ B) → A ∣ B
  | .r _ _ => A = 1
def Zb9 (K:PySem.W.Frag):Sp:=fun vs H Q _ => ∃ (s r:Addr) (xs:List V) (f:List Rat) (B:Int),vs = [.ref s,.ref r] ∧ H r = some (.lst xs) ∧ AllG (NR .q H) xs f ∧ 0 < B ∧ Bits 4000 B ∧ (∀ x ∈ f,((Rat.den x:Nat):Int) ∣ B) ∧ ∀ A:Int,ZmI .q f A → Q (.int A) H
theorem ZjB {b d:Int} (hb:0 < b) (hd:0 < d):0 < b.fdiv (Int.gcd b d) * d ∧ b ∣ b.fdiv (Int.gcd b d) * d ∧ d ∣ b.fdiv (Int.gcd b d) * d ∧ ∀ B:Int,b ∣ B → d ∣ B → b.fdiv (Int.gcd b d) * d ∣ B:=by
  have hg:(Int.gcd b d:Int) ≠ 0:=by have:=M3.gcd_ne (a:=b) (b:=d) (by omega); omega
  have gp:0 < (Int.gcd b d:Int):=by omega
  obtain ⟨q,hq⟩:=Int.gcd_dvd_left b d
  obtain ⟨e,he⟩:=Int.gcd_dvd_right b d
  have eb:b.fdiv (Int.gcd b d) = q:=by
    rw [Int.fdiv_eq_ediv_of_nonneg _ (by omega)]
    conv => lhs; lhs; rw [hq]
    exact Int.mul_ediv_cancel_left q hg
  have hq0:0 < q:=by
    rcases Int.lt_or_le 0 q with c | c
    · exact c
    · have:(Int.gcd b d:Int) * q ≤ 0:=Int.mul_nonpos_of_nonneg_of_nonpos (by omega) c
      omega
  rw [eb]
  have eq:q * d = b * e:=by
    calc q * d = q * ((Int.gcd b d:Int) * e):=by rw [← he]
      _ = (Int.gcd b d:Int) * q * e:=by rw [← Int.mul_assoc,Int.mul_comm q]
      _ = b * e:=by rw [← hq]
  have cop:Int.gcd q e = 1:=by
    have h1:=Int.gcd_mul_left (Int.gcd b d:Int) q e
    rw [← hq,← he,Int.natAbs_natCast] at h1
    have h2:0 < Int.gcd b d:=by omega
    have h3:Int.gcd b d * 1 = Int.gcd b d * Int.gcd q e:=by rw [Nat.mul_one]; exact h1
    exact (Nat.eq_of_mul_eq_mul_left h2 h3).symm
  refine ⟨Int.mul_pos hq0 hd,⟨e,eq⟩,⟨q,Int.mul_comm _ _⟩,?_⟩
  rintro B ⟨s,hs⟩ ⟨t,ht⟩
  have h5:q * s = e * t:=by
    have:(Int.gcd b d:Int) * (q * s) = (Int.gcd b d:Int) * (e * t):=by
      rw [← Int.mul_assoc,← Int.mul_assoc,← hq,← he,← hs,← ht]
    exact Int.eq_of_mul_eq_mul_left hg this
  have h6:q ∣ t:=Zge (b:=e) ⟨s,h5.symm⟩ cop
  obtain ⟨z,hz⟩:=h6
  exact ⟨z,by rw [ht,hz,← Int.mul_assoc,Int.mul_comm d q]⟩
section
variable {κ:KX}
noncomputable def ZgY (f g:List κ.F):Nat → κ.F
  | 0 => 0
  | k + 1 => ZgY f g k + f.getD k 0 * g.getD k 0
noncomputable def Zk4 (f g:List κ.F):κ.F:=ZgY f g f.length
theorem ZiF {f g:List κ.F} {i:Nat} {x y:κ.F} (hx:f[i]? = some x) (hy:g[i]? = some y):ZgY f g (i + 1) = ZgY f g i + x * y:=by
  show ZgY f g i + f.getD i 0 * g.getD i 0 = _
  rw [List.getD_eq_getElem?_getD,List.getD_eq_getElem?_getD,hx,hy]; rfl
end
theorem ZgZ {x:Rat} {A:Int} (hA:0 < A) (h:(x.den:Int) ∣ A):x = Rat.divInt (x.num * (A / x.den)) A:=by
  have hd:=(ZaU x).pos
  obtain ⟨c,rfl⟩:=h
  rw [Int.mul_ediv_cancel_left c (by omega)]
  have:Rat.divInt x.num x.den = Rat.divInt (x.num * c) (x.den * c):=by
    rw [Rat.divInt_eq_divInt_iff (by omega) (by omega)]
    rw [Int.mul_assoc,Int.mul_comm c]
  rw [← this,Rat.num_divInt_den]
theorem Zgm {X Y D:Int} (hD:0 < D):Rat.divInt X D + Rat.divInt Y D = Rat.divInt (X + Y) D:=by
  rw [Rat.divInt_add_divInt _ _ (by omega) (by omega),Rat.divInt_eq_divInt_iff (Int.ne_of_gt (Int.mul_pos hD hD)) (by omega),← Int.add_mul,Int.mul_assoc]
def tS (f g:List Rat) (A C:Int):Nat → Int
  | 0 => 0
  | k + 1 => tS f g A C k + (f.getD k 0).num * (A / (f.getD k 0).den) * (g.getD k 0).num * (C / (g.getD k 0).den)
theorem Zj3 {f g:List Rat} {A C:Int} (hA:0 < A) (hC:0 < C) (dA:∀ x ∈ f,(x.den:Int) ∣ A) (dC:∀ x ∈ g,(x.den:Int) ∣ C):∀ k,k ≤ f.length → k ≤ g.length → Rat.divInt (tS f g A C k) (A * C) = ZgY (κ:=.q) f g k
  | 0,_,_ => Rat.zero_divInt _
  | k + 1,h1,h2 => by
    have a:f.getD k 0 ∈ f:=by rw [List.getD_eq_getElem?_getD,List.getElem?_eq_getElem (show k < f.length by omega)]; exact List.getElem_mem _
    have b:g.getD k 0 ∈ g:=by rw [List.getD_eq_getElem?_getD,List.getElem?_eq_getElem (show k < g.length by omega)]; exact List.getElem_mem _
    have ih:=Zj3 hA hC dA dC k (by omega) (by omega)
    have e1:=ZgZ hA (dA _ a)
    have e2:=ZgZ hC (dC _ b)
    have e3:(f.getD k 0) * (g.getD k 0) = Rat.divInt ((f.getD k 0).num * (A / (f.getD k 0).den) * (g.getD k 0).num * (C / (g.getD k 0).den)) (A * C):=by
      conv => lhs; rw [e1,e2]
      rw [Rat.divInt_mul_divInt,← Int.mul_assoc]
    show Rat.divInt (tS f g A C k + _) (A * C) = ZgY (κ:=.q) f g k + (f.getD k 0:Rat) * (g.getD k 0:Rat)
    rw [← Zgm (Int.mul_pos hA hC),ih,e3]
def W60 (f:List Rat):Prop:=∀ x ∈ f,x.num.natAbs ≤ 10 ^ 500 ∧ x.den ≤ 10 ^ 200
def ZcO:Sp:=fun vs H Q _ => ∃ (s:Addr) (t b:Int),vs = [.ref s,.int t,.int b] ∧ 0 < b ∧ b.natAbs ≤ 10 ^ 1000 ∧ ∀ (r:Addr) (x y:Int),H r = none → Fc x y → x * b = t * y → Q (.ref r) (upd H r (.tup [.int x,.int y]))
def Zg0 (CF:Addr):Sp:=fun vs H Q _ => ∃ (s r1 r2:Addr) (xs ys:List V) (f g:List Rat) (B C:Int),vs = [.ref s,.ref r1,.ref r2] ∧ FrA CF H s ∧ H r1 = some (.lst xs) ∧ H r2 = some (.lst ys) ∧ AllG (NR .q H) xs f ∧ AllG (NR .q H) ys g ∧ f.length = g.length ∧ f.length ≤ 100 ∧ W60 f ∧ W60 g ∧ 0 < B ∧ B.natAbs ≤ 10 ^ 200 ∧ (∀ x ∈ f,((Rat.den x:Nat):Int) ∣ B) ∧ 0 < C ∧ C.natAbs ≤ 10 ^ 200 ∧ (∀ x ∈ g,((Rat.den x:Nat):Int) ∣ C) ∧ ∀ H' v,Same H H' → NR .q H' v (Zk4 (κ:=.q) f g) → Q v H'
def Zg1 (CR:Addr):Sp:=fun vs H Q _ => ∃ (p:Nat) (hp:PrN p) (s r1 r2:Addr) (xs ys:List V) (f g:List (KX.r p hp).F),vs = [.ref s,.ref r1,.ref r2] ∧ ReA CR p H s ∧ H r1 = some (.lst xs) ∧ H r2 = some (.lst ys) ∧ AllG (NR (.r p hp) H) xs f ∧ AllG (NR (.r p hp) H) ys g ∧ f.length = g.length ∧ f.length ≤ 100 ∧ ∀ H' v,Same H H' → NR (.r p hp) H' v (Zk4 f g) → Q v H'
def ZiG (P:Program) (w:World) (K:PySem.W.Frag) (mg:Str → Option Value) (base:Heap) (CF CR:Addr):Prop :=
  ∀ (κ:KX) (H:Hp) (s:Addr),KdX CF CR κ H s → ∃ C dx fs ps dvs sp,H s = some (.ins C dx fs) ∧ Cls K C ∧ HasM P w K mg base C "sum_of_products" 3 ps dvs sp ∧ fs.lookup ("sum_of_products" : Str) = none ∧ dvs = [] ∧
    ∀ (H':Hp) (r1 r2:Addr) (xs ys:List V) (f g:List κ.F) (D E M N:Nat) (Q:VK),Same H H' → H' r1 = some (.lst xs) → H' r2 = some (.lst ys) → AllG (NR κ H') xs f → AllG (NR κ H') ys g → f.length = g.length → f.length ≤ 100 → (∀ x ∈ f,QN κ (D:Int) M x) → (∀ x ∈ g,QN κ (E:Int) N x) → 0 < D → D ≤ 10 ^ 200 → 0 < E → E ≤ 10 ^ 200 → M ≤ 10 ^ 500 → N ≤ 10 ^ 500 → (∀ H'' v,Same H' H'' → NR κ H'' v (Zk4 f g) → Q v H'') → sp [.ref s,.ref r1,.ref r2] H' Q E0
theorem Zj4 {D M:Nat} (hD:0 < D) (lD:D ≤ 10 ^ 200) (lM:M ≤ 10 ^ 500) {f:List Rat} (h:∀ x ∈ f,QN .q (D:Int) M x):W60 f ∧ ∀ x ∈ f,((Rat.den x:Nat):Int) ∣ (D:Int):=by
  refine ⟨fun x hx => ?_,fun x hx => ?_⟩
  · obtain ⟨X,e,hX⟩:=h x hx
    have e:x = Rat.divInt X D:=e
    obtain ⟨d1,d2⟩:=Zd4 X (show (0:Int) < (D:Int) by omega)
    rw [← e] at d1 d2
    refine ⟨?_,?_⟩
    · by_cases z:X = 0
      · have:=ZgS X (show (0:Int) < (D:Int) by omega) z
        rw [← e] at this
        rw [this]; exact Nat.zero_le _
      · exact Nat.le_trans (ZaV d2 z) (Nat.le_trans hX lM)
    · have:=ZaV d1 (show (D:Int) ≠ 0 by omega)
      rw [Int.natAbs_natCast,Int.natAbs_natCast] at this
      omega
  · obtain ⟨X,e,hX⟩:=h x hx
    have e:x = Rat.divInt X D:=e
    rw [e]
    exact (Zd4 X (show (0:Int) < (D:Int) by omega)).1
theorem Zc4 {n i:Nat} (h:n ≤ 10 ^ i) (hi:i ≤ 1000:=by decide):n ≤ 10 ^ 1000:=Nat.le_trans h (Nat.pow_le_pow_right (by decide) hi)
theorem ZcC {n i:Nat} (h:n ≤ 10 ^ i) (hi:i ≤ 2000:=by decide):n ≤ 10 ^ 2000:=Nat.le_trans h (Nat.pow_le_pow_right (by decide) hi)
theorem Zj5:10 ^ 2000 < 2 ^ 8000:=by decide +kernel
theorem ZkU {i j:Int} (h:i.natAbs ≤ 10 ^ 2000) (h':j.natAbs ≤ 10 ^ 2000):IntMulOk i j :=
  .of_bits (Nat.le_trans (ZcI (n:=8000) (Nat.lt_of_le_of_lt h Zj5)) (by decide)) (Nat.le_trans (ZcI (n:=8000) (Nat.lt_of_le_of_lt h' Zj5)) (by decide))
theorem Zmo {a b:Int} {i j:Nat} (ha:a.natAbs ≤ 10 ^ i) (hb:b.natAbs ≤ 10 ^ j):(a * b).natAbs ≤ 10 ^ (i + j):=by
  rw [Int.natAbs_mul,Nat.pow_add]; exact Nat.mul_le_mul ha hb
theorem Zj6 {A b:Int}:(A / b).natAbs ≤ A.natAbs:=Int.natAbs_ediv_le_natAbs A b
end My
namespace My
open PySem L2 PyProof.Rows
section
variable {P:Program} {w:World} {K:PySem.W.Frag} {mg:Str → Option Value} {base:Heap} {CF CR:Addr}
theorem sc_Fractions_common_bottom:FnScope ["self", "some", "bottom", "one"] ["self", "some"] (Zag ZaI):=⟨rfl,rfl,rfl,by decide +kernel,rfl,by decide +kernel,by decide +kernel⟩
theorem Zgn (h:HereM K CF "common_bottom" "Fractions.common_bottom" ZaI) (h_divisor:Has P w K mg base "divisor" 1 ["one", "other"] ZaG):HasM P w K mg base CF "common_bottom" 2 ["self", "some"] [] (Zb9 K):=by
  refine h.hasM (fun f fd F => F.binds fun _ _ _ _ _ _ us hl => by obtain ⟨_,_,rfl⟩:=Zdg hl; exact rfl) fun f fd F => F.ok sc_Fractions_common_bottom (fun vs H Q E h => ?_) (fun cdv A outer s H vs Q E hr h => ?_)
  · obtain ⟨_,_,_,_,_,rfl,_⟩:=h
    rfl
  obtain ⟨sf,r,xs,f,B,rfl,hr1,al,hB,bB,dvB,k⟩:=h
  have nd:=sc_Fractions_common_bottom.nd
  refine ⟨_,(Zad (Zas (i:=2) nd rfl (Or.inl rfl) Zac)
    (Zad (ZcD PassesOwn.never rfl (ZcH (pv 1)) (ZaH (i:=3) nd rfl (Or.inl rfl)) (Zae (ZaC (Zap ZdG (Zaj ZaQ (pv 2) (Zar Zaq (pv 3) Zac (fun _ _ => rfl))) Zac (Zan _)) (Zae (Zas (i:=2) nd rfl (Or.inl rfl) (Zaj Zaz (Zaj Zbv (pv 2) (Zam h_divisor hr (by rfl) (Zaa (pv 2) (Zaa (Zar Zaq (pv 3) Zac (fun _ _ => rfl)) Zab)))) (Zar Zaq (pv 3) Zac (fun _ _ => rfl))))) Zao)))
    (Zae (Zai (pv 2))))),?_⟩
  have la:=al.1
  refine ⟨_,rfl,r,rfl,⟨_,SqL.of hr1⟩,?_⟩
  refine ZcP (xs:=xs) (fun i σ H2 => ∃ (A:Int) (z:Option V),σ = [some (.ref sf),some (.ref r),some (.int A),z] ∧ H2 = H ∧ ZmI .q (f.take i) A) ⟨1,none,rfl,rfl,by decide,fun x hx => by simp at hx,fun B _ => Int.one_dvd _⟩ ?_ ?_ ?_
  · rintro i σ H2 - ⟨A,z,rfl,rfl,-⟩
    exact SqL.of hr1
  · rintro i v σ H2 hv ⟨A,z,rfl,rfl,hA,dv,mn⟩
    obtain ⟨x,hx,a,rfl,ha⟩:=al.get hv
    have hd:=(ZaU x).pos
    have mx:=List.mem_of_getElem? hx
    have hAB:A ∣ B:=mn B fun y hy => dvB y (List.mem_of_mem_take hy)
    have bA:Bits 4000 A:=bB.le (ZaV hAB (by omega))
    have bd:Bits 4000 (Rat.den x:Int):=bB.le (ZaV (dvB x mx) (by omega))
    have tk:f.take (i + 1) = f.take i ++ [x]:=by rw [List.take_succ,hx]; rfl
    refine ⟨_,rfl,_,rfl,a,_,1,_,rfl,rfl,SqT.of ha,rfl,_,_,rfl,rfl,(show (Rat.den x:Int) ≠ 0 by omega),rfl,_,rfl,?_⟩
    refine Zdo (fun z1 => ?_) (fun z1 => ?_)
    · obtain ⟨p1,d1,d2,lm⟩:=ZjB hA hd
      have g0:(Int.gcd A (Rat.den x:Int):Int) ≠ 0:=by have:=M3.gcd_ne (a:=A) (b:=(Rat.den x:Int)) (by omega); omega
      have gb:Bits 4000 (Int.gcd A (Rat.den x:Int):Int):=bA.le (ZaV (Int.gcd_dvd_left A (Rat.den x:Int)) (by omega))
      have fb:=M3.fdiv_le (Int.gcd_dvd_left A (Rat.den x:Int)) g0
      refine ⟨_,rfl,_,rfl,_,rfl,a,_,1,_,rfl,rfl,SqT.of ha,rfl,A,_,rfl,_,_,rfl,rfl,⟨g0,gb⟩,_,rfl,a,_,1,_,rfl,rfl,SqT.of ha,rfl,_,_,rfl,rfl,Bits.mulG ((bA.le fb).up (by decide)) bd,?_⟩
      refine ⟨_,_,rfl,rfl,p1,fun y hy => ?_,fun B' hB' => ?_⟩
      · rw [tk] at hy
        rcases List.mem_append.mp hy with q | q
        · exact Int.dvd_trans (dv y q) d1
        · rw [List.mem_singleton.mp q]; exact d2
      · rw [tk] at hB'
        exact lm B' (mn B' fun y hy => hB' y (List.mem_append.mpr (.inl hy))) (hB' x (List.mem_append.mpr (.inr (List.mem_singleton.mpr rfl))))
    · refine ⟨A,_,rfl,rfl,hA,fun y hy => ?_,fun B' hB' => ?_⟩
      · rw [tk] at hy
        rcases List.mem_append.mp hy with q | q
        · exact dv y q
        · rw [List.mem_singleton.mp q]
          have z2:A.fmod (Rat.den x:Int) = 0:=z1
          rw [Int.fmod_eq_emod_of_nonneg _ (by omega)] at z2
          exact Int.dvd_of_emod_eq_zero z2
      · rw [tk] at hB'
        exact mn B' fun y hy => hB' y (List.mem_append.mpr (.inl hy))
  · rintro σ H2 ⟨A,z,rfl,rfl,hA⟩
    rw [la,List.take_length] at hA
    exact ⟨_,rfl,k A hA⟩
end
section
variable {P:Program} {w:World} {K:PySem.W.Frag} {mg:Str → Option Value} {base:Heap} {CF CR cN:Addr}
theorem Zgo {tk:Tok} (h:HereD K CF "number" "Fractions.number" ZaB #[.int 1 tk]) (c:ExcC K mg "NoNumber" cN) (h_divisor:Has P w K mg base "divisor" 1 ["one", "other"] ZaG):HasMX P w K mg base CF "number" 2 ["self", "top", "bottom"] [] ZcO:=by
  refine h.hasMX (ds:=[]) .nil (fun f fd T F => F.binds fun _ _ _ _ _ _ us hl => by obtain ⟨_,_,_,rfl⟩:=Zdv (show us.length = 3 by simpa using hl); exact ⟨_,rfl,rfl⟩) fun f fd T F => ?_
  refine F.okx sc_Fractions_number (fun vs H Q E h => ?_) (fun cdv A outer s H vs Q E hr h => ?_)
  · obtain ⟨_,_,_,rfl,_⟩:=h
    rfl
  obtain ⟨sf,t,b,rfl,hb,lb,k⟩:=h
  have nd:=sc_Fractions_number.nd
  refine ⟨_,(Zad (ZaC (Zap Zbi (pv 2) Zac (Zan _)) (Zae (ZcW c ZfB rfl (by rfl) (Zaa ZdF Zab))) Zao)
    (Zad (Zas (i:=3) nd rfl (Or.inl rfl) (Zam h_divisor hr (by rfl) (Zaa (pv 1) (Zaa (pv 2) Zab))))
    (Zad (ZaC (Zap ZfY (pv 2) Zac (Zan _)) (Zae (Zas (i:=3) nd rfl (Or.inl rfl) (ZeH ZcR (pv 3)))) Zao)
    (Zae (Zai (Zbs (Zaa (Zaj Zdw (pv 1) (pv 3)) (Zaa (Zaj Zdw (pv 2) (pv 3)) Zab)))))))),?_⟩
  refine ⟨_,rfl,rfl,_,rfl,?_⟩
  refine ZbD (fun z => absurd z (by omega)) (fun _ => ?_)
  refine ⟨_,rfl,_,rfl,t,b,rfl,?_⟩
  refine ⟨_,rfl,_,_,rfl,rfl,_,rfl,?_⟩
  refine ZbI (fun hn => absurd hn (by omega)) (fun hn => ?_)
  have hg:=M3.gcd_ne (a:=t) (b:=b) (by omega)
  have gl:Int.gcd t b ≤ b.natAbs:=Nat.le_of_dvd (by omega) (Int.natAbs_dvd_natAbs.mpr (Int.gcd_dvd_right t b))
  have hg1:(Int.gcd t b:Int) ≠ 0 ∧ ((Int.gcd t b:Int)).natAbs ≤ 10 ^ 1000:=⟨by omega,Nat.le_trans (show _ ≤ b.natAbs from gl) lb⟩
  obtain ⟨l1,l2,l3,l4,l5⟩:=M3.low (t:=t) hb
  refine ⟨_,rfl,_,rfl,_,_,rfl,rfl,hg1,_,rfl,_,rfl,_,_,rfl,rfl,hg1,(by show 2 ≤ sizeLine; decide),fun r hr' => ?_⟩
  exact k r _ _ hr' ⟨l2,l1⟩ l3
end
section
variable {P:Program} {w:World} {K:PySem.W.Frag} {mg:Str → Option Value} {base:Heap} {CF CR cN:Addr}
theorem sc_Fractions_sum_of_products:FnScope ["self", "some", "others", "ahead", "behind", "total", "one", "other"] ["self", "some", "others"] (Zag ZaF):=⟨rfl,rfl,rfl,by decide +kernel,rfl,by decide +kernel,by decide +kernel⟩
theorem ZjC (h:HereM K CF "sum_of_products" "Fractions.sum_of_products" ZaF) (cl:Cls K CF) (Tz:mg "zip" = none) (hB:HasM P w K mg base CF "common_bottom" 2 ["self", "some"] [] (Zb9 K)) (hN:HasMX P w K mg base CF "number" 2 ["self", "top", "bottom"] [] ZcO):HasM P w K mg base CF "sum_of_products" 3 ["self", "some", "others"] [] (Zg0 CF):=by
  refine h.hasM (fun f fd F => F.binds fun _ _ _ _ _ _ us hl => by obtain ⟨_,_,_,rfl⟩:=Zdv hl; exact rfl) fun f fd F => F.ok sc_Fractions_sum_of_products (fun vs H Q E h => ?_) (fun cdv A outer s H vs Q E hr h => ?_)
  · obtain ⟨_,_,_,_,_,_,_,_,_,rfl,_⟩:=h
    rfl
  obtain ⟨sf,r1,r2,xs,ys,f1,f2,B1',C1',rfl,⟨dx,hs⟩,h1,h2,al1,al2,lfg,l100,w1,w2,b0,bl,bd,c0,cl',cd,k⟩:=h
  have nd:=sc_Fractions_sum_of_products.nd
  refine ⟨_,(Zad (Zas (i:=3) nd rfl (Or.inl rfl) (ZaA (pv 0) hr (Zaa (pv 1) Zab)))
    (Zad (Zas (i:=4) nd rfl (Or.inl rfl) (ZaA (pv 0) hr (Zaa (pv 2) Zab)))
    (Zad (Zas (i:=5) nd rfl (Or.inl rfl) Zac)
    (Zad (ZcD PassesOwn.never rfl (Zif (by rfl) Tz (Zaa (pv 1) (Zaa (pv 2) Zab))) (ZjR rfl (Zcv (ZaH (i:=6) nd rfl (Or.inl rfl)) (Zcv (ZaH (i:=7) nd rfl (Or.inl rfl)) ZfX))) (Zae (ZhJ (i:=5) nd rfl (Or.inl rfl) (Zaj Zaz (Zaj Zaz (Zaj Zaz (Zar Zaq (pv 6) Zac (fun _ _ => rfl)) (Zaj Zdw (pv 3) (Zar Zaq (pv 6) Zac (fun _ _ => rfl)))) (Zar Zaq (pv 7) Zac (fun _ _ => rfl))) (Zaj Zdw (pv 4) (Zar Zaq (pv 7) Zac (fun _ _ => rfl)))) ZjS)))
    (Zae (Zai (ZaL (pv 0) ZeQ hr (Zaa (pv 5) (Zaa (Zaj Zaz (pv 3) (pv 4)) Zab))))))))),?_⟩
  have lx:=al1.1
  have ly:=al2.1
  have bitsB:∀ {Z:Int},Z.natAbs ≤ 10 ^ 200 → Bits 4000 Z:=fun {Z} hz => Bits.of (Nat.lt_of_le_of_lt hz (Nat.lt_of_lt_of_le (show 10 ^ 200 < 2 ^ 1000 by decide) (Nat.pow_le_pow_right (by decide) (by decide))))
  refine ⟨_,rfl,sf,CF,dx,[],_,_,Zb9 K,rfl,hs,cl,hB,rfl,_,rfl,sf,r1,xs,f1,B1',rfl,h1,al1,b0,bitsB bl,bd,fun A ⟨hA,dA,mA⟩ => ?_⟩
  refine ⟨_,rfl,sf,CF,dx,[],_,_,Zb9 K,rfl,hs,cl,hB,rfl,_,rfl,sf,r2,ys,f2,C1',rfl,h2,al2,c0,bitsB cl',cd,fun C ⟨hC,dC,mC⟩ => ?_⟩
  have lA:A.natAbs ≤ 10 ^ 200:=Nat.le_trans (ZaV (mA _ bd) (by omega)) bl
  have lC:C.natAbs ≤ 10 ^ 200:=Nat.le_trans (ZaV (mC _ cd) (by omega)) cl'
  refine ⟨_,rfl,_,rfl,r1,r2,rfl,⟨_,SqL.of h1⟩,⟨_,SqL.of h2⟩,?_⟩
  refine ZkG (xs:=xs) (ys:=ys) (fun i σ H2 => ∃ z6 z7:Option V,σ = [some (.ref sf),some (.ref r1),some (.ref r2),some (.int A),some (.int C),some (.int (tS f1 f2 A C i)),z6,z7] ∧ Same H H2) ⟨none,none,rfl,Same.refl H⟩ ?_ ?_ ?_
  · rintro i σ H2 ⟨z6,z7,rfl,S⟩
    exact ⟨SqL.of (S _ _ h1),SqL.of (S _ _ h2)⟩
  · rintro i u v Tp σ H2 hx hy nT ⟨z6,z7,rfl,S⟩
    obtain ⟨x,hx',t,rfl,ht⟩:=al1.get hx
    obtain ⟨y,hy',t',rfl,ht'⟩:=al2.get hy
    have ex:f1.getD i 0 = x:=by rw [List.getD_eq_getElem?_getD,hx']; rfl
    have ey:f2.getD i 0 = y:=by rw [List.getD_eq_getElem?_getD,hy']; rfl
    have hb:=(ZaU x).pos
    have hd:=(ZaU y).pos
    obtain ⟨la,lb⟩:=w1 x (List.mem_of_getElem? hx')
    obtain ⟨lc,ld⟩:=w2 y (List.mem_of_getElem? hy')
    have ST:=Zah nT (.tup [.ref t,.ref t'])
    refine ⟨Tp,_,rfl,SqT.of Zaf,rfl,_,_,rfl,_,_,rfl,rfl,?_⟩
    generalize upd H2 Tp (.tup [.ref t,.ref t']) = H3 at *
    have S3:=S.trans ST
    have qt:=SqT.of (K:=K) (S3 _ _ ht)
    have qu:=SqT.of (K:=K) (S3 _ _ ht')
    have eA:A.fdiv (x.den:Int) = A / x.den:=Int.fdiv_eq_ediv_of_nonneg _ (by omega)
    have eC:C.fdiv (y.den:Int) = C / y.den:=Int.fdiv_eq_ediv_of_nonneg _ (by omega)
    have lA':(A.fdiv (x.den:Int)).natAbs ≤ 10 ^ 200:=by rw [eA]; exact Nat.le_trans Zj6 lA
    have lC':(C.fdiv (y.den:Int)).natAbs ≤ 10 ^ 200:=by rw [eC]; exact Nat.le_trans Zj6 lC
    have m1:=Zmo la lA'
    have m2:=Zmo m1 lc
    refine ⟨_,rfl,_,rfl,t,_,_,_,rfl,rfl,qt,rfl,_,rfl,_,rfl,t,_,_,_,rfl,rfl,qt,rfl,_,_,rfl,rfl,⟨(show (x.den:Int) ≠ 0 by omega),Zc4 (by rw [Int.natAbs_natCast]; exact lb)⟩,_,_,rfl,rfl,ZkU (ZcC la) (ZcC lA'),_,rfl,t',_,_,_,rfl,rfl,qu,rfl,_,_,rfl,rfl,ZkU (ZcC m1) (ZcC lc),_,rfl,_,rfl,t',_,_,_,rfl,rfl,qu,rfl,_,_,rfl,rfl,⟨(show (y.den:Int) ≠ 0 by omega),Zc4 (by rw [Int.natAbs_natCast]; exact ld)⟩,_,_,rfl,rfl,ZkU (ZcC m2) (ZcC lC'),_,_,rfl,rfl,?_⟩
    refine ⟨some (.ref t),some (.ref t'),?_,S3⟩
    have e:tS f1 f2 A C (i + 1) = tS f1 f2 A C i + x.num * (A.fdiv (x.den:Int)) * y.num * (C.fdiv (y.den:Int)):=by
      show tS f1 f2 A C i + _ = _
      rw [ex,ey,eA,eC]
    rw [e]
    rfl
  · rintro i σ H2 hi ⟨z6,z7,rfl,S⟩
    have hi:i = f1.length:=by omega
    subst hi
    have hAC:0 < A * C:=Int.mul_pos hA hC
    refine ⟨_,rfl,sf,CF,dx,[],_,_,ZcO,rfl,S _ _ hs,cl,hN,rfl,_,rfl,_,rfl,_,rfl,_,_,rfl,rfl,Zm7 (Zc4 lA) (Zc4 lC),sf,_,_,rfl,hAC,Zc4 (Zmo lA lC),fun r x y nr fc e => ?_⟩
    obtain ⟨q,q1,q2⟩:=ZfJ fc
    have y0:=fc.pos
    have eq:q = Zk4 (κ:=.q) f1 f2:=by
      have t:=Zj3 hA hC dA dC f1.length (Nat.le_refl _) (by omega)
      have:q = Rat.divInt (tS f1 f2 A C f1.length) (A * C):=by
        rw [← Rat.num_divInt_den q,q1,q2,Rat.divInt_eq_divInt_iff (by omega) (by omega)]
        exact e
      exact this.trans t
    refine k _ _ (S.trans (Zah nr _)) ⟨r,rfl,?_⟩
    rw [Zaf,← eq]
    show some (HO.tup [V.int x,V.int y]) = some (HO.tup [V.int (Rat.num q),V.int ((Rat.den q:Nat):Int)])
    rw [q1,q2]
theorem ZbV:FnScope ["self", "some", "others"] ["self", "some", "others"] (Zag ZaM):=⟨rfl,rfl,rfl,by decide +kernel,rfl,by decide +kernel,by decide +kernel⟩
theorem ZjD (h:HereM K CR "sum_of_products" "Rests.sum_of_products" ZaM) (cl:Cls K CR) (nP:NoAttr K CR "prime") (Tz:mg "zip" = none) (Ts:mg "sum" = none):HasM P w K mg base CR "sum_of_products" 3 ["self", "some", "others"] [] (Zg1 CR):=by
  refine h.hasM (fun f fd F => F.binds fun _ _ _ _ _ _ us hl => by obtain ⟨_,_,_,rfl⟩:=Zdv hl; exact rfl) fun f fd F => F.ok ZbV (fun vs H Q E h => ?_) (fun cdv A outer s H vs Q E hr h => ?_)
  · obtain ⟨_,_,_,_,_,_,_,_,_,rfl,_⟩:=h
    rfl
  obtain ⟨p,hp,sr,r1,r2,xs,ys,f1,f2,rfl,⟨dx,hs⟩,h1,h2,al1,al2,lfg,l100,k⟩:=h
  refine ⟨_,(Zae (Zai (Zaj ZaQ (Zak (Zjp rfl) (by rfl) Ts boot_sum (Zaa (Zdf ["one", "other"] [] rfl (Zif (by rfl) Tz (Zaa (pv 1) (Zaa (pv 2) Zab))) (by exact fun _ _ _ _ => (Zih (n:=2) K rfl rfl (Zcv (ZaH (i:=0) (show (["one", "other"]:List Str).Nodup by decide +kernel) rfl (Or.inl rfl)) (Zcv (ZaH (i:=1) (show (["one", "other"]:List Str).Nodup by decide +kernel) rfl (Or.inl rfl)) ZfX)))) (by exact fun _ _ _ _ => (Zaj Zaz (pv 0) (pv 1))) trivial) Zab)) (Zbj (pv 0) rfl)))),?_⟩
  have lx:=al1.1
  have ly:=al2.1
  have h2':=hp.two
  refine ⟨_,rfl,_,rfl,r1,r2,rfl,⟨_,SqL.of h1⟩,⟨_,SqL.of h2⟩,?_⟩
  refine ZfE (K:=K) (a:=r1) (b:=r2) (xs:=xs) (ys:=ys) (fun i zs H2 => Same H H2 ∧ ∃ ms:List Int,zs = ms.map V.int ∧ (ms.sum % p:Int) = ((Fin.val (ZgY f1 f2 i:Fin p):Nat):Int)) (by omega) ⟨Same.refl H,[],rfl,?_⟩ (fun i zs H2 q => ⟨SqL.of (q.1 _ _ h1),SqL.of (q.1 _ _ h2)⟩) ?_ ?_
  · show (0:Int) % p = ((Fin.val (K0 (.r p hp)):Nat):Int)
    rw [ZcA]; simp
  · rintro i u v Tp zs H2 hx hy hl nT ⟨S,ms,rfl,es⟩
    obtain ⟨x,hx',e1⟩:=al1.get hx
    obtain ⟨y,hy',e2⟩:=al2.get hy
    have e1:u = .int (Fin.val (x:Fin p)):=e1
    have e2:v = .int (Fin.val (y:Fin p)):=e2
    subst e1 e2
    have ST:=Zah nT (.tup [.int (Fin.val (x:Fin p)),.int (Fin.val (y:Fin p))])
    generalize upd H2 Tp (.tup [.int (Fin.val (x:Fin p)),.int (Fin.val (y:Fin p))]) = H3 at *
    refine ⟨_,rfl,_,rfl,_,_,rfl,rfl,Za6 (ZaO hp x) (ZaO hp y),S.trans ST,ms ++ [(Fin.val (x:Fin p):Int) * Fin.val (y:Fin p)],by simp,?_⟩
    have ed:(ZgY f1 f2 (i + 1):Fin p) = (ZgY f1 f2 i:Fin p) + (x:Fin p) * (y:Fin p):=ZiF hx' hy'
    rw [ed,Fin.val_add,Fin.val_mul,List.sum_append]
    simp only [List.sum_cons,List.sum_nil,Int.add_zero]
    rw [Int.add_emod,es,Int.natCast_emod,Int.natCast_add,Int.natCast_emod,Int.natCast_mul,Int.add_emod (Fin.val (ZgY f1 f2 i:Fin p):Int)]
    first | done | simp
  · rintro zs H2 hl ⟨S,ms,rfl,es⟩ D hD
    have S4:=S.trans (Zah hD (.lst (ms.map V.int)))
    refine ⟨D,_,rfl,SqL.of Zaf,?_⟩
    refine ⟨_,rfl,sr,CR,dx,_,_,rfl,S4 _ _ hs,cl,nP,Zbk p,_,_,rfl,rfl,(show (p:Int) ≠ 0 by omega),?_⟩
    show Q (V.int (ms.sum.fmod p)) _
    refine k _ _ S4 ?_
    show V.int (ms.sum.fmod p) = V.int ((Fin.val (ZgY f1 f2 f1.length:Fin p):Nat):Int)
    rw [Int.fmod_eq_emod_of_nonneg _ (by omega),es]
    congr 4
    omega
theorem ZjE (kd:Kd K mg CF CR) (hF:HasM P w K mg base CF "sum_of_products" 3 ["self", "some", "others"] [] (Zg0 CF)) (hR:HasM P w K mg base CR "sum_of_products" 3 ["self", "some", "others"] [] (Zg1 CR)):ZiG P w K mg base CF CR:=by
  intro κ H s hk
  cases κ with
  | q =>
    obtain ⟨dx,h⟩:=hk
    refine ⟨CF,dx,[],_,_,_,h,kd.clF,hF,rfl,rfl,fun H' r1 r2 xs ys f g D E M N Q S h1 h2 a1 a2 lfg l100 qf qg d0 dl e0 el ml nl k => ?_⟩
    obtain ⟨w1,v1⟩:=Zj4 d0 dl ml qf
    obtain ⟨w2,v2⟩:=Zj4 e0 el nl qg
    exact ⟨s,r1,r2,xs,ys,f,g,(D:Int),(E:Int),rfl,⟨dx,S _ _ h⟩,h1,h2,a1,a2,lfg,l100,w1,w2,by omega,by rw [Int.natAbs_natCast]; exact dl,v1,by omega,by rw [Int.natAbs_natCast]; exact el,v2,k⟩
  | r p hp =>
    obtain ⟨dx,h⟩:=hk
    exact ⟨CR,dx,fsR p,_,_,_,h,kd.clR,hR,ZcE _ (by decide),rfl,fun H' r1 r2 xs ys f g D E M N Q S h1 h2 a1 a2 lfg l100 qf qg d0 dl e0 el ml nl k => ⟨p,hp,s,r1,r2,xs,ys,f,g,rfl,⟨dx,S _ _ h⟩,h1,h2,a1,a2,lfg,l100,k⟩⟩
end
end My
namespace My
open PySem L2 PyProof.Rows
section
variable {κ:KX}
theorem QN.up {D E:Int} (hD:0 < D) (hE:0 < E) {M e:Nat} {x:κ.F} (h:QN κ D M x) (bE:E.natAbs ≤ e):QN κ (D * E) (M * e) x:=by
  cases κ with
  | r p hp => exact trivial
  | q =>
    obtain ⟨X,rfl,hX⟩:=h
    refine ⟨X * E,?_,by rw [Int.natAbs_mul]; exact Nat.mul_le_mul hX bE⟩
    rw [Rat.divInt_eq_divInt_iff (by omega) (Int.ne_of_gt (Int.mul_pos hD hE)),Int.mul_assoc,Int.mul_comm D E]
theorem QN.neg {D:Int} {M:Nat} {x:κ.F} (h:QN κ D M x):QN κ D M (0 - x):=by
  cases κ with
  | r p hp => exact trivial
  | q =>
    obtain ⟨X,rfl,hX⟩:=h
    refine ⟨-X,?_,by omega⟩
    have:(0 - Rat.divInt X D:Rat) = -Rat.divInt X D:=by grind
    show (0 - Rat.divInt X D:Rat) = _
    rw [this,Rat.neg_divInt]
theorem QN.sub {D:Int} (hD:0 < D) {M N:Nat} {x y:κ.F} (h:QN κ D M x) (g:QN κ D N y):QN κ D (M + N) (x - y):=by
  have e:x - y = x + (0 - y):=by grind
  rw [e]
  exact QN.add hD h g.neg
theorem ZlJ {E N:Nat} (hE:0 < E) (hN:0 < N) {c:κ.F} (h:QN κ (E:Int) N c) (hc:c ≠ 0):∃ a:Nat,0 < a ∧ a ≤ N ∧ QN κ (a:Int) E (Fd.inv c):=by
  cases κ with
  | r p hp => exact ⟨1,by decide,hN,trivial⟩
  | q =>
    obtain ⟨X,e,hX⟩:=h
    have X0:X ≠ 0:=fun z => hc (by rw [e,z]; exact Rat.zero_divInt _)
    have m:Rat.divInt X E * Rat.divInt E X = (1:Rat):=by
      rw [Rat.divInt_mul_divInt]
      have:X * (E:Int) ≠ 0:=Int.mul_ne_zero X0 (by omega)
      have e2:(1:Rat) = Rat.divInt 1 1:=rfl
      have e3:(E:Int) * X ≠ 0:=Int.mul_ne_zero (by omega) X0
      rw [e2,Rat.divInt_eq_divInt_iff e3 (by decide)]
      rw [Int.mul_one,Int.one_mul,Int.mul_comm]
    have ei:Fd.inv c = Rat.divInt E X:=by
      have h1:(c:Rat) * Rat.divInt E X = 1:=by rw [e]; exact m
      exact (Ze5 (α:=Rat) h1).symm
    refine ⟨X.natAbs,by omega,hX,?_⟩
    show ∃ Y:Int,(Fd.inv c:Rat) = Rat.divInt Y (X.natAbs:Int) ∧ Y.natAbs ≤ E
    rcases Int.lt_or_gt_of_ne X0 with s | s
    · refine ⟨-(E:Int),?_,by omega⟩
      have:((X.natAbs:Nat):Int) = -X:=by omega
      rw [ei,this,Rat.divInt_eq_divInt_iff X0 (by omega),Int.mul_neg,Int.neg_mul]
    · refine ⟨(E:Int),?_,by omega⟩
      have:((X.natAbs:Nat):Int) = X:=by omega
      rw [ei,this]
noncomputable def gs (G:List κ.F) (p k:Nat):κ.F:=if p ≤ k then G.getD (k - p) 0 else 0
theorem Zax {F:List κ.F} {k:Nat} (h:F.length ≤ k):F.getD k 0 = 0:=by
  rw [List.getD_eq_getElem?_getD,List.getElem?_eq_none h]; rfl
theorem ZlK {F G:List κ.F} {i k:Nat}:∀ j:Nat,pI F G i j k = if i ≤ k ∧ k < i + j then F.getD i 0 * G.getD (k - i) 0 else 0
  | 0 => by rw [if_neg (by omega)]; rfl
  | j + 1 => by
    show pI F G i j k + (if i + j = k then F.getD i 0 * G.getD j 0 else 0) = _
    rw [ZlK j]
    by_cases a:i + j = k
    · subst a
      rw [if_neg (by omega),if_pos rfl,if_pos (by omega),Nat.add_sub_cancel_left]; grind
    · rw [if_neg a]
      by_cases b:i ≤ k ∧ k < i + j
      · rw [if_pos b,if_pos (by omega)]; grind
      · rw [if_neg b,if_neg (by omega)]; exact add00
theorem Zmp {F G:List κ.F} {i k:Nat}:pI F G i G.length k = F.getD i 0 * gs G i k:=by
  rw [ZlK]
  unfold gs
  by_cases a:i ≤ k
  · rw [if_pos a]
    by_cases b:k < i + G.length
    · rw [if_pos ⟨a,b⟩]
    · rw [if_neg (by omega),Zax (show G.length ≤ k - i by omega)]; grind
  · rw [if_neg (by omega),if_neg a]; grind
theorem ZfK {T:List κ.F} {r:Nat} (h:∀ j,r ≤ j → T.getD j 0 = 0) (k:Nat):(T.take r).getD k 0 = T.getD k 0:=by
  by_cases c:k < r
  · rw [List.getD_eq_getElem?_getD,List.getElem?_take,if_pos c,← List.getD_eq_getElem?_getD]
  · rw [h k (by omega),Zax (by rw [List.length_take]; omega)]
def Trm (F:List κ.F):Prop:=F.length = 0 ∨ F.getD (F.length - 1) 0 ≠ 0
theorem Za0 {T:List κ.F} {r:Nat} (lr:r ≤ T.length) (h:r = 0 ∨ T.getD (r - 1) 0 ≠ 0):Trm (T.take r):=by
  have e:(T.take r).length = r:=by rw [List.length_take]; omega
  rcases h with h | h
  · left; omega
  · by_cases z:r = 0
    · left; omega
    · right
      rw [e,List.getD_eq_getElem?_getD,List.getElem?_take,if_pos (by omega),← List.getD_eq_getElem?_getD]
      exact h
theorem ZiH {F G:List κ.F} (hF:Trm F) (hG:Trm G) (h:∀ k,F.getD k 0 = G.getD k 0):F = G:=by
  have le:∀ {A B:List κ.F},Trm A → (∀ k,A.getD k 0 = B.getD k 0) → A.length ≤ B.length:=by
    intro A B hA h
    rcases hA with z | z
    · omega
    · refine Nat.le_of_not_lt fun c => z ?_
      rw [h,Zax (by omega)]
  have l:F.length = G.length:=Nat.le_antisymm (le hF h) (le hG fun k => (h k).symm)
  apply List.ext_getElem l
  intro i h1 h2
  have:=h i
  rw [List.getD_eq_getElem?_getD,List.getD_eq_getElem?_getD,List.getElem?_eq_getElem h1,List.getElem?_eq_getElem h2] at this
  exact this
noncomputable def dI (G:List κ.F) (x:κ.F) (p a:Nat) (R:List κ.F):List κ.F:=(List.range R.length).map fun k => if p ≤ k ∧ k < p + a then R.getD k 0 - x * G.getD (k - p) 0 else R.getD k 0
structure Dv (F G:List κ.F) (t:Nat) (qs R:List κ.F):Prop where
  lq:qs.length = t
  lr:R.length = F.length
  eq:∀ k,F.getD k 0 = pO (List.replicate (F.length + 1 - G.length - t) 0 ++ qs.reverse) G (F.length + 1 - G.length) k + (if k < F.length - t then R.getD k 0 else 0)
  top:∀ x,qs[0]? = some x → x = F.getD (F.length - 1) 0 * Fd.inv (G.getD (G.length - 1) 0)
  fst:t = 0 → R = F
end
end My
namespace My
open PySem L2 PyProof.Rows
def Zbz (CF CR:Addr):Sp:=fun vs H Q _ => ∃ (κ:KX) (s a:Addr) (xs:List V) (g:List κ.F),vs = [.ref s,.ref a] ∧ KdX CF CR κ H s ∧ H a = some (.lst xs) ∧ AllG (NR κ H) xs g ∧
  ∀ (H':Hp) (D:Addr) (r:Nat),Same H H' → H D = none → H' D = some (.lst (xs.take r)) → r ≤ g.length → (∀ j,r ≤ j → g.getD j 0 = 0) → (r = 0 ∨ g.getD (r - 1) 0 ≠ 0) → Q (.ref D) H'
structure DvIn {κ:KX} (F G:List κ.F) (D E M N:Nat):Prop where
  lF:F.length ≤ 100
  lG:G.length ≤ 100
  tG:Trm G
  qF:∀ x ∈ F,QN κ (D:Int) M x
  qG:∀ x ∈ G,QN κ (E:Int) N x
  d0:0 < D
  e0:0 < E
  m0:0 < M
  n0:0 < N
  eN:E ≤ N
  bD:D * (N * E) ^ (F.length + 1 - G.length) < 2 ^ 3000
  bM:M * (2 * (E * N)) ^ (F.length + 1 - G.length) < 2 ^ 3000
  bE:E < 2 ^ 3000
  bN:N < 2 ^ 3000
structure DvOut {κ:KX} (F G:List κ.F) (D E M N a:Nat) (qs R:List κ.F) (r:Nat):Prop where
  dv:Dv F G (F.length + 1 - G.length) qs R
  lr:r ≤ (R.take (G.length - 1)).length
  r0:∀ j,r ≤ j → (R.take (G.length - 1)).getD j 0 = 0
  r1:r = 0 ∨ (R.take (G.length - 1)).getD (r - 1) 0 ≠ 0
  a0:0 < a
  aN:a ≤ N
  qq:∀ x ∈ qs,QN κ ((D * (a * E) ^ (F.length + 1 - G.length):Nat):Int) (M * (2 * (E * N)) ^ (F.length + 1 - G.length)) x
  qR:∀ x ∈ R,QN κ ((D * (a * E) ^ (F.length + 1 - G.length):Nat):Int) (M * (2 * (E * N)) ^ (F.length + 1 - G.length)) x
section
variable {κ:KX}
theorem QN.upN {D c:Nat} (hD:0 < D) (hc:0 < c) {M:Nat} {x:κ.F} (h:QN κ (D:Int) M x):QN κ ((D * c:Nat):Int) (M * c) x:=by
  rw [Int.natCast_mul]
  exact QN.up (by omega) (by omega) h (by omega)
end
end My
namespace My.Rg
open PySem L2 PyProof.Rows
section
variable {α:Type} [Lean.Grind.CommRing α]
theorem ZmJ:(0:α) + 0 = 0:=by grind
def Sg (h:Nat → α):Nat → α
  | 0 => 0
  | n + 1 => Sg h n + h n
theorem Sg_congr {h g:Nat → α}:∀ {n:Nat},(∀ i,i < n → h i = g i) → Sg h n = Sg g n
  | 0,_ => rfl
  | n + 1,e => by
    show Sg h n + h n = Sg g n + g n
    rw [Sg_congr (n:=n) fun i hi => e i (by omega),e n (by omega)]
theorem ZiI (c:α) (h:Nat → α):∀ n,c * Sg h n = Sg (fun i => c * h i) n
  | 0 => by show c * 0 = 0; grind
  | n + 1 => by
    show c * (Sg h n + h n) = Sg (fun i => c * h i) n + c * h n
    rw [← ZiI c h n]; grind
theorem ZiJ (h g:Nat → α):∀ n,Sg h n + Sg g n = Sg (fun i => h i + g i) n
  | 0 => ZmJ
  | n + 1 => by
    show (Sg h n + h n) + (Sg g n + g n) = Sg (fun i => h i + g i) n + (h n + g n)
    rw [← ZiJ h g n]; grind
theorem Sg_zero:∀ n,Sg (fun _ => (0:α)) n = 0
  | 0 => rfl
  | n + 1 => by show Sg _ n + 0 = 0; rw [Sg_zero n]; exact ZmJ
theorem Ze6 (h:Nat → α):∀ n,Sg h (n + 1) = h 0 + Sg (fun i => h (i + 1)) n
  | 0 => by show 0 + h 0 = h 0 + 0; grind
  | n + 1 => by
    show Sg h (n + 1) + h (n + 1) = h 0 + (Sg (fun i => h (i + 1)) n + h (n + 1))
    rw [Ze6 h n]; grind
def sgn (α:Type) [Lean.Grind.CommRing α]:Nat → α
  | 0 => 1
  | n + 1 => 0 - sgn α n
def skip (j t:Nat):Nat:=if t < j then t else t + 1
def det:Nat → (Nat → Nat → α) → α
  | 0,_ => 1
  | n + 1,a => Sg (fun j => sgn α j * a 0 j * det n (fun i k => a (i + 1) (skip j k))) (n + 1)
end
end My.Rg
namespace My.Rg
open PySem L2 PyProof.Rows
section
variable {α:Type} [Lean.Grind.CommRing α]
theorem Zj7 (F:Nat → Nat → α):∀ n,Sg (fun k => Sg (fun i => F k i) (k + 1)) n = Sg (fun i => Sg (fun j => F (i + j) i) (n - i)) n
  | 0 => rfl
  | n + 1 => by
    show Sg _ n + Sg (fun i => F n i) (n + 1) = Sg _ n + Sg (fun j => F (n + j) n) (n + 1 - n)
    rw [Zj7 F n,show n + 1 - n = 1 by omega]
    have e:Sg (fun i => Sg (fun j => F (i + j) i) (n + 1 - i)) n = Sg (fun i => Sg (fun j => F (i + j) i) (n - i)) n + Sg (fun i => F n i) n:=by
      rw [ZiJ]
      refine Sg_congr fun i hi => ?_
      rw [show n + 1 - i = (n - i) + 1 by omega]
      show _ + F (i + (n - i)) i = _
      rw [show i + (n - i) = n by omega]
    rw [e]
    show _ + (Sg (fun i => F n i) n + F n n) = _ + (0 + F (n + 0) n)
    generalize Sg (fun i => Sg (fun j => F (i + j) i) (n - i)) n = S
    generalize Sg (fun i => F n i) n = U
    show _ = _ + (0 + F n n)
    grind
theorem Zj8 (h:Nat → α):∀ n,Sg h n = Sg (fun i => h (n - 1 - i)) n
  | 0 => rfl
  | n + 1 => by
    rw [Ze6 (fun i => h (n + 1 - 1 - i)) n]
    show Sg h n + h n = h n + _
    rw [Zj8 h n]
    have e:Sg (fun i => h (n - 1 - i)) n = Sg (fun i => h (n + 1 - 1 - (i + 1))) n:=Sg_congr fun i _ => by rw [show n + 1 - 1 - (i + 1) = n - 1 - i by omega]
    rw [e]
    grind
end
structure Ps (α:Type) where
  c:Nat → α
namespace Ps
section
variable {α:Type} [Lean.Grind.CommRing α]
def nc (n:Nat):α:=@NatCast.natCast α Lean.Grind.Semiring.natCast n
def ic (i:Int):α:=@IntCast.intCast α Lean.Grind.Ring.intCast i
theorem ext {f g:Ps α} (h:∀ n,f.c n = g.c n):f = g:=by
  cases f; cases g
  congr 1
  funext n
  exact h n
def add (f g:Ps α):Ps α:=⟨fun n => f.c n + g.c n⟩
def mul (f g:Ps α):Ps α:=⟨fun n => Sg (fun i => f.c i * g.c (n - i)) (n + 1)⟩
def neg (f:Ps α):Ps α:=⟨fun n => - f.c n⟩
def con (x:α):Ps α:=⟨fun n => if n = 0 then x else 0⟩
def pow (f:Ps α):Nat → Ps α
  | 0 => con 1
  | n + 1 => mul (pow f n) f
theorem con_mul (x:α) (f:Ps α) (n:Nat):(mul (con x) f).c n = x * f.c n:=by
  show Sg (fun i => (if i = 0 then x else 0) * f.c (n - i)) (n + 1) = _
  rw [Ze6]
  have e:Sg (fun i => (if i + 1 = 0 then x else 0) * f.c (n - (i + 1))) n = Sg (fun _ => (0:α)) n:=Sg_congr fun i _ => by rw [if_neg (by omega)]; grind
  rw [e,Sg_zero,if_pos rfl]
  show x * f.c n + 0 = _
  grind
theorem ZeD (f g:Ps α):mul f g = mul g f:=ext fun n => by
  show Sg _ (n + 1) = Sg _ (n + 1)
  rw [Zj8]
  refine Sg_congr fun i hi => ?_
  rw [show n + 1 - 1 - i = n - i by omega,show n - (n - i) = i by omega]
  grind
theorem ZlL (f g h:Ps α):mul (mul f g) h = mul f (mul g h):=ext fun n => by
  show Sg (fun k => Sg (fun i => f.c i * g.c (k - i)) (k + 1) * h.c (n - k)) (n + 1) = Sg (fun i => f.c i * Sg (fun j => g.c j * h.c (n - i - j)) (n - i + 1)) (n + 1)
  have e:Sg (fun k => Sg (fun i => f.c i * g.c (k - i)) (k + 1) * h.c (n - k)) (n + 1) = Sg (fun k => Sg (fun i => f.c i * (g.c (k - i) * h.c (n - k))) (k + 1)) (n + 1):=Sg_congr fun k _ => by
    have e1:Sg (fun i => f.c i * g.c (k - i)) (k + 1) * h.c (n - k) = h.c (n - k) * Sg (fun i => f.c i * g.c (k - i)) (k + 1):=by grind
    rw [e1,ZiI]
    refine Sg_congr fun i _ => ?_
    grind
  rw [e,Zj7 (fun k i => f.c i * (g.c (k - i) * h.c (n - k))) (n + 1)]
  refine Sg_congr fun i hi => ?_
  rw [ZiI,show n + 1 - i = n - i + 1 by omega]
  refine Sg_congr fun j _ => ?_
  rw [show i + j - i = j by omega,show n - (i + j) = n - i - j by omega]
theorem Zg2 (f g h:Ps α):mul f (add g h) = add (mul f g) (mul f h):=ext fun n => by
  show Sg _ (n + 1) = Sg _ (n + 1) + Sg _ (n + 1)
  rw [ZiJ]
  refine Sg_congr fun i _ => ?_
  show f.c i * (g.c (n - i) + h.c (n - i)) = _
  grind
theorem ZiK (f:Ps α):mul (con 1) f = f:=ext fun n => by rw [con_mul]; grind
theorem Zg3 (f:Ps α):mul (con 0) f = con 0:=ext fun n => by
  rw [con_mul]
  show 0 * f.c n = if n = 0 then 0 else 0
  split <;> grind
theorem Zgp {x y:α} (h:x = y):con x = con y:=by rw [h]
instance instRing:Lean.Grind.CommRing (Ps α) where
  add:=add
  mul:=mul
  neg:=neg
  sub f g:=add f (neg g)
  natCast:=⟨fun n => con (nc n)⟩
  ofNat n:=⟨con (OfNat.ofNat n)⟩
  nsmul:=⟨fun n f => mul (con (nc n)) f⟩
  npow:=⟨pow⟩
  intCast:=⟨fun i => con (ic i)⟩
  zsmul:=⟨fun i f => mul (con (ic i)) f⟩
  add_zero f:=ext fun n => by
    show f.c n + (if n = 0 then 0 else 0) = f.c n
    split <;> grind
  add_comm f g:=ext fun n => by show f.c n + g.c n = g.c n + f.c n; grind
  add_assoc f g h:=ext fun n => by show f.c n + g.c n + h.c n = f.c n + (g.c n + h.c n); grind
  mul_assoc:=ZlL
  mul_one f:=(ZeD f (con 1)).trans (ZiK f)
  one_mul f:=ZiK f
  left_distrib:=Zg2
  right_distrib f g h:=by
    show mul (add f g) h = add (mul f h) (mul g h)
    rw [ZeD,Zg2,ZeD h f,ZeD h g]
  zero_mul f:=Zg3 f
  mul_zero f:=(ZeD f (con 0)).trans (Zg3 f)
  pow_zero f:=rfl
  pow_succ f n:=rfl
  ofNat_succ n:=ext fun k => by
    show (if k = 0 then OfNat.ofNat (n + 1) else 0) = (if k = 0 then OfNat.ofNat n else 0) + (if k = 0 then (1:α) else 0)
    split
    · exact Lean.Grind.Semiring.ofNat_succ n
    · grind
  ofNat_eq_natCast n:=Zgp (Lean.Grind.Semiring.ofNat_eq_natCast n)
  nsmul_eq_natCast_mul n f:=rfl
  neg_add_cancel f:=ext fun n => by
    show - f.c n + f.c n = if n = 0 then 0 else 0
    split <;> grind
  sub_eq_add_neg f g:=rfl
  neg_zsmul i f:=ext fun n => by
    show (mul (con (ic (-i))) f).c n = - (mul (con (ic i)) f).c n
    rw [con_mul,con_mul,show (ic (-i):α) = - ic i from Lean.Grind.Ring.intCast_neg i]
    grind
  zsmul_natCast_eq_nsmul n f:=by
    show mul (con (ic (n:Int))) f = mul (con (nc n)) f
    rw [Zgp (show (ic (n:Int):α) = nc n from Lean.Grind.Ring.intCast_natCast n)]
  intCast_ofNat n:=Zgp (Lean.Grind.Ring.intCast_ofNat n)
  intCast_neg i:=ext fun n => by
    show (if n = 0 then (ic (-i):α) else 0) = - (if n = 0 then ic i else 0)
    split
    · exact Lean.Grind.Ring.intCast_neg i
    · grind
  mul_comm:=ZeD
theorem c_add (f g:Ps α) (n:Nat):(f + g).c n = f.c n + g.c n:=rfl
theorem c_mul (f g:Ps α) (n:Nat):(f * g).c n = Sg (fun i => f.c i * g.c (n - i)) (n + 1):=rfl
theorem c_sub (f g:Ps α) (n:Nat):(f - g).c n = f.c n - g.c n:=by
  show f.c n + - g.c n = _
  grind
theorem c_zero (n:Nat):(0:Ps α).c n = 0:=by show (if n = 0 then (0:α) else 0) = 0; split <;> rfl
end
end Ps
end My.Rg
namespace My
open PySem L2 PyProof.Rows
section
variable {κ:KX}
abbrev Sr (κ:KX):Type:=Rg.Ps κ.F
noncomputable def sr (F:List κ.F):Sr κ:=⟨fun k => F.getD k 0⟩
theorem Zfh (F:List κ.F) (k:Nat):(sr F).c k = F.getD k 0:=rfl
theorem ZlM {F G:List κ.F} (h:∀ k,F.getD k 0 = G.getD k 0):sr F = sr G:=Rg.Ps.ext h
theorem Zmq {F G:List κ.F} (h:sr F = sr G) (k:Nat):F.getD k 0 = G.getD k 0:=by rw [← Zfh,h,Zfh]
noncomputable def cn (x:κ.F):Sr κ:=sr [x]
theorem ZlY (x:κ.F) (k:Nat):(cn x).c k = if k = 0 then x else 0:=by
  cases k with
  | zero => rfl
  | succ k => rfl
theorem Zj9 (x:κ.F):cn x = Rg.Ps.con x:=Rg.Ps.ext fun k => by rw [ZlY]; rfl
theorem ZiL (x:κ.F) (a:Sr κ) (k:Nat):(cn x * a).c k = x * a.c k:=by rw [Zj9]; exact Rg.Ps.con_mul x a k
theorem cn_one:cn (1:κ.F) = 1:=by rw [Zj9]; rfl
theorem ZlN (x y:κ.F):cn x * cn y = cn (x * y):=Rg.Ps.ext fun k => by
  rw [ZiL,ZlY,ZlY]
  split
  · rfl
  · grind
theorem ZlO {x:κ.F} (h:x ≠ 0):cn (Fd.inv x) * cn x = 1:=by
  rw [ZlN,show Fd.inv x * x = 1 by have:=Fd.mul_inv x h; grind,cn_one]
theorem Zg4 {h:Nat → κ.F} {n:Nat}:∀ d,(∀ i,n ≤ i → h i = 0) → Rg.Sg h (n + d) = Rg.Sg h n
  | 0,_ => rfl
  | d + 1,e => by
    show Rg.Sg h (n + d) + h (n + d) = _
    rw [Zg4 d e,e (n + d) (by omega)]
    generalize Rg.Sg h n = s
    grind
theorem Zka {F G:List κ.F} {k:Nat}:∀ n,pO F G n k = Rg.Sg (fun i => F.getD i 0 * gs G i k) n
  | 0 => rfl
  | n + 1 => by
    show pO F G n k + pI F G n G.length k = Rg.Sg _ n + _
    rw [Zka n,Zmp]
theorem Zkb (F G:List κ.F) (k:Nat):(sr F * sr G).c k = pO F G F.length k:=by
  rw [Zka,Rg.Ps.c_mul]
  have e1:=Zg4 (h:=fun i => F.getD i 0 * gs G i k) (n:=F.length) (k + 1 - F.length) fun i hi => by
    show F.getD i 0 * _ = 0
    rw [Zax hi]; grind
  have e2:Rg.Sg (fun i => F.getD i 0 * gs G i k) (k + 1) = Rg.Sg (fun i => (sr F).c i * (sr G).c (k - i)) (k + 1):=Rg.Sg_congr fun i hi => by
    show F.getD i 0 * gs G i k = F.getD i 0 * G.getD (k - i) 0
    unfold gs
    rw [if_pos (by omega)]
  rw [← e2]
  by_cases h:F.length ≤ k + 1
  · rw [← e1,show F.length + (k + 1 - F.length) = k + 1 by omega]
  · have e3:=Zg4 (h:=fun i => F.getD i 0 * gs G i k) (n:=k + 1) (F.length - (k + 1)) fun i hi => by
      show F.getD i 0 * gs G i k = 0
      unfold gs
      rw [if_neg (by omega)]; grind
    rw [← e3,show k + 1 + (F.length - (k + 1)) = F.length by omega]
def Fs (a:Sr κ):Prop:=∃ N,∀ k,N ≤ k → a.c k = 0
theorem Fs.sr (F:List κ.F):Fs (sr F):=⟨F.length,fun k h => by rw [Zfh]; exact Zax h⟩
theorem Fs.cn (x:κ.F):Fs (cn x):=Fs.sr [x]
theorem Fs.zero:Fs (0:Sr κ):=⟨0,fun k _ => Rg.Ps.c_zero k⟩
theorem Fs.one:Fs (1:Sr κ):=by rw [← cn_one]; exact Fs.cn 1
theorem Fs.add {a b:Sr κ} (h:Fs a) (g:Fs b):Fs (a + b):=by
  obtain ⟨N,h⟩:=h
  obtain ⟨M,g⟩:=g
  exact ⟨N + M,fun k hk => by rw [Rg.Ps.c_add,h k (by omega),g k (by omega)]; grind⟩
theorem Fs.mul {a b:Sr κ} (h:Fs a) (g:Fs b):Fs (a * b):=by
  obtain ⟨N,h⟩:=h
  obtain ⟨M,g⟩:=g
  refine ⟨N + M,fun k hk => ?_⟩
  rw [Rg.Ps.c_mul,Rg.Sg_congr (g:=fun _ => 0) fun i hi => ?_,Rg.Sg_zero]
  by_cases q:N ≤ i
  · rw [h i q]; grind
  · rw [g (k - i) (by omega)]; grind
theorem Fs.sub {a b:Sr κ} (h:Fs a) (g:Fs b):Fs (a - b):=by
  obtain ⟨N,h⟩:=h
  obtain ⟨M,g⟩:=g
  exact ⟨N + M,fun k hk => by rw [Rg.Ps.c_sub,h k (by omega),g k (by omega)]; grind⟩
theorem ZkV {F:List κ.F} (t:Trm F) (h:sr F = 0):F = []:=ZiH t (.inl rfl) fun k => by
  rw [← Zfh,h,Rg.Ps.c_zero]; rfl
theorem Zg5 {F:List κ.F} {x:κ.F} (h:x ∈ F):∃ k,k < F.length ∧ x = F.getD k 0:=by
  obtain ⟨k,hk,e⟩:=List.getElem_of_mem h
  exact ⟨k,hk,by rw [List.getD_eq_getElem?_getD,List.getElem?_eq_getElem hk,e]; rfl⟩
theorem Zkc {F:List κ.F} {D:Int} {M:Nat} (h:∀ x ∈ F,QN κ D M x) (k:Nat):QN κ D M (F.getD k 0):=by
  by_cases q:k < F.length
  · refine h _ ?_
    rw [List.getD_eq_getElem?_getD,List.getElem?_eq_getElem q]
    exact List.getElem_mem _
  · rw [Zax (by omega)]; exact QN.zero
theorem ZiM {x:κ.F} {G:List κ.F} {D E:Int} {M N:Nat} (hx:QN κ D M x) (hG:∀ y ∈ G,QN κ E N y) (k:Nat):QN κ (D * E) (M * N) ((cn x * sr G).c k):=by
  rw [ZiL,Zfh]
  exact hx.mul (Zkc hG k)
end
end My
namespace My
open PySem L2 PyProof.Rows
structure PolL (κ:KX) (H:Hp) (a:Addr) (xs:List V) (f:List κ.F):Prop where
  l:H a = some (.lst xs)
  al:AllG (NR κ H) xs f
theorem PolL.same {κ:KX} {H H':Hp} {a:Addr} {xs:List V} {f:List κ.F} (h:PolL κ H a xs f) (S:Same H H'):PolL κ H' a xs f:=⟨S _ _ h.l,h.al.mono fun _ _ n => n.same S⟩
def ZfL:Sp:=fun vs H Q _ => ∃ (κ:KX) (c:Int) (most:Nat),vs = [.int κ.P,.int c,.int (most:Int)] ∧ most ≤ 60 ∧ ∀ H' a xs f,Same H H' → PolL κ H' a xs f → f.length ≤ most → Trm f → (∀ x ∈ f,QN κ 12 108 x) → Q (.ref a) H'
def ZbL:Sp:=fun vs H Q _ => ∃ (κ:KX) (a:Addr) (xs:List V) (f:List κ.F),vs = [.int κ.P,.ref a] ∧ PolL κ H a xs f ∧ Trm f ∧ ∀ H',Same H H' → Q (.bl true) H'
noncomputable def ZfV {κ:KX} (F G:List κ.F):List κ.F:=(List.range (max F.length G.length)).map fun k => F.getD k 0 + G.getD k 0
theorem Ze7 {κ:KX} (F G:List κ.F):(ZfV F G).length = max F.length G.length:=by unfold ZfV; simp
theorem Zg6 {κ:KX} (F G:List κ.F) (k:Nat):(ZfV F G).getD k 0 = F.getD k 0 + G.getD k 0:=by
  by_cases h:k < max F.length G.length
  · unfold ZfV
    rw [List.getD_eq_getElem?_getD,List.getElem?_map,List.getElem?_range h]; rfl
  · rw [Zax (by rw [Ze7]; omega),Zax (show F.length ≤ k by omega),Zax (show G.length ≤ k by omega)]; exact add00.symm
def ZcF:Sp:=fun vs H Q _ => ∃ (κ:KX) (fa ga:Addr) (xs ys:List V) (F G:List κ.F),vs = [.int κ.P,.ref fa,.ref ga] ∧ PolL κ H fa xs F ∧ PolL κ H ga ys G ∧ F.length ≤ 400 ∧ G.length ≤ 400 ∧ (∀ x ∈ F,B1 κ x) ∧ (∀ x ∈ G,B1 κ x) ∧
  ∀ (H':Hp) (R:Addr) (zs:List V) (r:Nat),Same H H' → PolL κ H' R zs ((ZfV F G).take r) → r ≤ (ZfV F G).length → (∀ j,r ≤ j → (ZfV F G).getD j 0 = 0) → (r = 0 ∨ (ZfV F G).getD (r - 1) 0 ≠ 0) → Q (.ref R) H'
def szD (κ:KX):Nat:=match κ with
  | .q => 144
  | .r _ _ => 1
def szM (κ:KX):Nat:=match κ with
  | .q => 10 ^ 63
  | .r _ _ => 1
structure PolS {κ:KX} (f:List κ.F):Prop where
  t:Trm f
  l:f.length ≤ 60
  lq:κ = .q → f.length ≤ 9
  s:∀ x ∈ f,QN κ (szD κ:Int) (szM κ) x
end My
namespace L2
open PySem PySem.Spec PyProof.Rows
section
variable {X:Cx}
theorem Zea (K:PySem.W.Frag) (h:X.K = K) {e:Expr} {ta:TE} {f:Str} {pos:Pos} (he:PE X e ta) (hb:attributeBase e f X.env (eval e X.env) = eval e X.env):PE X (.Attribute e f pos) (ZmD K ta f):=by subst h; exact Zbj he hb
end
end L2
namespace My
open PySem L2 PyProof.Rows
def PoA (CP CF CR:Addr) (κ:KX) (H:Hp) (s:Addr):Prop:=∃ dx k,H s = some (.ins CP dx [("under", .ref k)]) ∧ KdX CF CR κ H k
theorem PoA.same {CP CF CR:Addr} {κ:KX} {H H':Hp} {s:Addr} (h:PoA CP CF CR κ H s) (S:Same H H'):PoA CP CF CR κ H' s:=by
  obtain ⟨dx,k,a,b⟩:=h
  exact ⟨dx,k,S _ _ a,b.same S⟩
structure Pc (K:PySem.W.Frag) (mg:Str → Option Value) (CP:Addr):Prop where
  cl:Cls K CP
  nU:NoAttr K CP "under"
  m:mg "Polys" = some (.ref CP)
section
variable {κ:KX}
theorem ZiN (f g:List κ.F):∀ n,ZgY f g n = Rg.Sg (fun i => f.getD i 0 * g.getD i 0) n
  | 0 => rfl
  | n + 1 => by
    show ZgY f g n + _ = Rg.Sg _ n + _
    rw [ZiN f g n]
theorem Zkd (h:Nat → κ.F) (st:Nat):∀ m,Rg.Sg h (st + m) = Rg.Sg h st + Rg.Sg (fun i => h (st + i)) m
  | 0 => by
    show Rg.Sg h st = Rg.Sg h st + 0
    generalize Rg.Sg h st = s
    grind
  | m + 1 => by
    show Rg.Sg h (st + m) + h (st + m) = Rg.Sg h st + (Rg.Sg _ m + h (st + m))
    rw [Zkd h st m]
    generalize Rg.Sg h st = s
    generalize Rg.Sg (fun i => h (st + i)) m = t
    grind
theorem ZjF {f g:List κ.F} {pl st b:Nat} (es:st = pl + 1 - g.length) (eb:b = min (pl + 1) f.length) (h:st ≤ b):Zk4 ((f.drop st).take (b - st)) ((List.range (b - st)).map fun i => g.getD (pl - (st + i)) 0) = (sr f * sr g).c pl:=by
  have l:((f.drop st).take (b - st)).length = b - st:=by rw [List.length_take,List.length_drop]; omega
  unfold Zk4
  rw [l,ZiN,Rg.Ps.c_mul]
  have e1:Rg.Sg (fun i => ((f.drop st).take (b - st)).getD i 0 * ((List.range (b - st)).map fun i => g.getD (pl - (st + i)) 0).getD i 0) (b - st) = Rg.Sg (fun i => f.getD (st + i) 0 * g.getD (pl - (st + i)) 0) (b - st):=Rg.Sg_congr fun i hi => by
    congr 1
    · rw [List.getD_eq_getElem?_getD,List.getElem?_take,if_pos hi,List.getElem?_drop,List.getD_eq_getElem?_getD]
    · rw [List.getD_eq_getElem?_getD,List.getElem?_map,List.getElem?_range hi]; rfl
  rw [e1]
  have e2:=Zkd (fun i => f.getD i 0 * g.getD (pl - i) 0) st (b - st)
  have e3:Rg.Sg (fun i => f.getD i 0 * g.getD (pl - i) 0) st = 0:=by
    rw [Rg.Sg_congr (g:=fun _ => (0:κ.F)) fun i hi => ?_,Rg.Sg_zero]
    rw [Zax (F:=g) (by omega)]; grind
  have e4:=Zg4 (h:=fun i => f.getD i 0 * g.getD (pl - i) 0) (n:=b) (pl + 1 - b)
  rw [e3,show st + (b - st) = b by omega] at e2
  show _ = Rg.Sg (fun i => f.getD i 0 * g.getD (pl - i) 0) (pl + 1)
  by_cases q:pl + 1 ≤ f.length
  · rw [show pl + 1 = b by omega,e2]
    generalize Rg.Sg (fun i => f.getD (st + i) 0 * g.getD (pl - (st + i)) 0) (b - st) = s
    grind
  · have e5:=e4 fun i hi => by
      show f.getD i 0 * _ = 0
      rw [Zax (F:=f) (by omega)]; grind
    rw [show b + (pl + 1 - b) = pl + 1 by omega] at e5
    rw [e5,e2]
    generalize Rg.Sg (fun i => f.getD (st + i) 0 * g.getD (pl - (st + i)) 0) (b - st) = s
    grind
noncomputable def plP (F G:List κ.F):List κ.F:=List.zipWith (· + ·) F G ++ F.drop (min F.length G.length) ++ G.drop (min F.length G.length)
theorem ZkW (F G:List κ.F) (k:Nat):(plP F G).getD k 0 = F.getD k 0 + G.getD k 0:=by
  unfold plP
  have lz:(List.zipWith (· + ·) F G).length = min F.length G.length:=List.length_zipWith ..
  by_cases h1:k < min F.length G.length
  · rw [List.append_assoc,List.getD_eq_getElem?_getD,List.getElem?_append_left (by omega),List.getElem?_zipWith,List.getElem?_eq_getElem (show k < F.length by omega),List.getElem?_eq_getElem (show k < G.length by omega),List.getD_eq_getElem?_getD,List.getElem?_eq_getElem (show k < F.length by omega),List.getD_eq_getElem?_getD,List.getElem?_eq_getElem (show k < G.length by omega)]
    rfl
  · rcases Nat.le_total F.length G.length with q | q
    · rw [Nat.min_eq_left q,List.drop_length,List.append_nil,List.getD_eq_getElem?_getD,List.getElem?_append_right (by omega),List.getElem?_drop,lz,Nat.min_eq_left q,show F.length + (k - F.length) = k by omega,← List.getD_eq_getElem?_getD,Zax (F:=F) (by omega)]
      generalize G.getD k 0 = z
      grind
    · rw [Nat.min_eq_right q,List.drop_length,List.append_nil,List.getD_eq_getElem?_getD,List.getElem?_append_right (by omega),List.getElem?_drop,lz,Nat.min_eq_right q,show G.length + (k - G.length) = k by omega,← List.getD_eq_getElem?_getD,Zax (F:=G) (by omega)]
      generalize F.getD k 0 = z
      grind
theorem ZkX (F G:List κ.F):(plP F G).length = max F.length G.length:=by
  unfold plP
  rw [List.length_append,List.length_append,List.length_zipWith,List.length_drop,List.length_drop]
  omega
end
def Zg7 (CP:Addr):Sp:=fun vs H Q _ => ∃ (x dx k:Addr),vs = [.ref x,.ref k] ∧ H x = some (.ins CP dx []) ∧ Q .non (upd H x (.ins CP dx [("under", .ref k)]))
def Zke (CF CR:Addr):Sp:=fun vs H Q _ => ∃ (κ:KX) (s fa ga:Addr) (xs ys:List V) (f g:List κ.F) (pl D E M N:Nat),vs = [.ref s,.ref fa,.ref ga,.int (pl:Int)] ∧ KdX CF CR κ H s ∧ PolL κ H fa xs f ∧ PolL κ H ga ys g ∧ pl + 2 ≤ f.length + g.length ∧ f.length ≤ 90 ∧ g.length ≤ 90 ∧ (∀ x ∈ f,QN κ (D:Int) M x) ∧ (∀ x ∈ g,QN κ (E:Int) N x) ∧ 0 < D ∧ D ≤ 10 ^ 200 ∧ 0 < E ∧ E ≤ 10 ^ 200 ∧ M ≤ 10 ^ 500 ∧ N ≤ 10 ^ 500 ∧ ∀ H' v,Same H H' → NR κ H' v ((sr f * sr g).c pl) → Q v H'
def Ze8 (CP CF CR:Addr):Sp:=fun vs H Q _ => ∃ (κ:KX) (s fa ga:Addr) (xs ys:List V) (F G:List κ.F),vs = [.ref s,.ref fa,.ref ga] ∧ PoA CP CF CR κ H s ∧ PolL κ H fa xs F ∧ PolL κ H ga ys G ∧ F.length ≤ 90 ∧ G.length ≤ 90 ∧ (∀ x ∈ F,B1 κ x) ∧ (∀ x ∈ G,B1 κ x) ∧
  ∀ (H':Hp) (R:Addr) (zs:List V) (T:List κ.F),Same H H' → H R = none → PolL κ H' R zs T → Trm T → sr T = sr F + sr G → T.length ≤ max F.length G.length → Q (.ref R) H'
def ZfM (CP CF CR:Addr):Sp:=fun vs H Q _ => ∃ (κ:KX) (s fa ga:Addr) (xs ys:List V) (F G:List κ.F),vs = [.ref s,.ref fa,.ref ga] ∧ PoA CP CF CR κ H s ∧ PolL κ H fa xs F ∧ PolL κ H ga ys G ∧ F.length ≤ 90 ∧ G.length ≤ 90 ∧ (∀ x ∈ F,B1 κ x) ∧ (∀ x ∈ G,B1 κ x) ∧
  ∀ (H':Hp) (R:Addr) (zs:List V) (T:List κ.F),Same H H' → H R = none → PolL κ H' R zs T → Trm T → sr T = sr F - sr G → T.length ≤ max F.length G.length → Q (.ref R) H'
def Zeb (CP CF CR:Addr):Sp:=fun vs H Q _ => ∃ (κ:KX) (s fa ga:Addr) (xs ys:List V) (F G:List κ.F) (D E M N:Nat),vs = [.ref s,.ref fa,.ref ga] ∧ PoA CP CF CR κ H s ∧ PolL κ H fa xs F ∧ PolL κ H ga ys G ∧ F.length ≤ 90 ∧ G.length ≤ 90 ∧ (∀ x ∈ F,QN κ (D:Int) M x) ∧ (∀ x ∈ G,QN κ (E:Int) N x) ∧ 0 < D ∧ D ≤ 10 ^ 200 ∧ 0 < E ∧ E ≤ 10 ^ 200 ∧ M ≤ 10 ^ 500 ∧ N ≤ 10 ^ 500 ∧
  ∀ (H':Hp) (R:Addr) (zs:List V) (T:List κ.F),Same H H' → H R = none → PolL κ H' R zs T → Trm T → sr T = sr F * sr G → T.length ≤ F.length + G.length - 1 → Q (.ref R) H'
end My
namespace My
open PySem L2 PyProof.Rows
section
variable {P:Program} {w:World} {K:PySem.W.Frag} {mg:Str → Option Value} {base:Heap} {CF CR cN:Addr}
theorem sc_trimmed:FnScope ["kind", "numbers", "count"] ["kind", "numbers"] (Zag ZdQ):=⟨rfl,rfl,rfl,by decide +kernel,rfl,by decide +kernel,by decide +kernel⟩
theorem Zhy (h:Here K mg "trimmed" ZdQ) (T:Nm mg) (mz:Ziy P w K mg base CF CR):Has P w K mg base "trimmed" 3 ["kind", "numbers"] (Zbz CF CR):=by
  refine h.has (fun f fd F => F.binds fun _ _ _ _ _ _ us hl => by obtain ⟨_,_,rfl⟩:=Zdg hl; exact rfl) fun f fd F => F.ok sc_trimmed (fun vs H Q E h => ?_) (fun cdv A outer s H vs Q E hr h => ?_)
  · obtain ⟨_,_,_,_,_,rfl,_⟩:=h
    rfl
  obtain ⟨κ,sk,a,xs,g,rfl,hk,ha,al,k⟩:=h
  have nd:=sc_trimmed.nd
  refine ⟨_,(Zad (Zas (i:=2) nd rfl (Or.inl rfl) (Zak Zal (by rfl) T.len boot_len (Zaa (pv 1) Zab)))
    (Zad (ZbH PassesOwn.never (Zgx (Zap ZfZ (pv 2) Zac (Zan _)) (ZfW (ZaD (ZaA (pv 0) hr (Zaa (Zar Zaw (pv 1) (Zaj ZbB (pv 2) Zac) (fun _ _ => rfl)) Zab))))).pt (Zae (ZhJ (i:=2) nd rfl (Or.inl rfl) Zac Zlg)))
    (Zae (Zai (Zbt ZbY (pv 1) Zce (ZbO (pv 2))))))),?_⟩
  have lx:=al.1
  obtain ⟨Cz,dxz,fsz,psz,dvz,spz,c1,c2,c3,c4,rfl,c5⟩:=mz κ H sk hk
  refine ⟨_,rfl,a,_,rfl,.inl (SqL.of ha),?_⟩
  refine ⟨fun mm σ H' => ∃ r:Int,mm = r.toNat ∧ σ = [some (.ref sk),some (.ref a),some (.int r)] ∧ H' = H ∧ 0 ≤ r ∧ r ≤ g.length ∧ (∀ j:Nat,r ≤ j → g.getD j 0 = 0),⟨_,(xs.length:Int),rfl,rfl,rfl,by omega,by omega,fun j hj => Zax (by omega)⟩,?_⟩
  rintro mm σ H' ⟨r,rfl,rfl,rfl,r0,hr',h0⟩
  have fin:(r = 0 ∨ g.getD (r.toNat - 1) 0 ≠ 0) → ∀ p,H' p = none → Q (.ref p) (upd H' p (.lst (Zfq xs none (some r)))):=fun z p np => by
    have e:=Zd6 xs r.toNat
    rw [show ((r.toNat:Nat):Int) = r by omega] at e
    rw [e]
    exact k _ p r.toNat (Zah np _) np Zaf (by omega) (fun j hj => h0 j (by omega)) (z.imp (fun z => by omega) id)
  refine ⟨_,rfl,_,_,rfl,rfl,_,rfl,?_⟩
  refine ZbI (fun z => ?_) (fun z => ?_)
  · have z:(0:Int) < r:=z
    obtain ⟨v,hv,nv⟩:=Zbr al (i:=r.toNat - 1) (by omega)
    refine ⟨_,rfl,sk,Cz,dxz,fsz,psz,_,spz,rfl,c1,c2,c3.mono (by decide),c4,_,rfl,_,rfl,_,_,rfl,rfl,a,_,_,v,rfl,rfl,SqL.of ha,(by rw [show r - 1 = ((r.toNat - 1:Nat):Int) by omega]; exact Za4 hv),c5 v _ _ nv fun b hb => ⟨_,rfl,?_⟩⟩
    cases b with
    | true =>
      have gz:=hb.mp rfl
      refine Zei ⟨_,fun _ _ h => h,?_⟩
      refine ⟨_,rfl,r,1,rfl,rfl,?_⟩
      refine ⟨(r - 1).toNat,by omega,r - 1,rfl,rfl,rfl,by omega,by omega,fun j hj => ?_⟩
      by_cases e:j = r.toNat - 1
      · rw [e]; exact gz
      · exact h0 j (by omega)
    | false =>
      refine ZbE ?_
      exact ⟨_,rfl,_,rfl,r,rfl,a,_,rfl,SqL.of ha,fin (.inr fun z => by have:=hb.mpr z; cases this)⟩
  · have z:¬ (0:Int) < r:=z
    exact ⟨_,rfl,_,rfl,r,rfl,a,_,rfl,SqL.of ha,fin (.inl (by omega))⟩
end
end My
namespace My
open PySem L2 PyProof.Rows
theorem ZjG (xs:List V) {a b:Nat} (hab:a ≤ b) (hb:b ≤ xs.length):Zfq xs (some (a:Int)) (some (b:Int)) = (xs.drop a).take (b - a):=by
  unfold Zfq
  rw [HT.sIx_nat,HT.sIx_nat,Nat.min_eq_left (show a ≤ xs.length by omega),Nat.min_eq_left hb]
theorem ZiO {κ:KX} {H:Hp} {xs:List V} {f:List κ.F} (al:AllG (NR κ H) xs f) {a k:Nat}:AllG (NR κ H) ((xs.drop a).take k) ((f.drop a).take k):=Zbw (al.drop a) k
section
variable {P:Program} {w:World} {K:PySem.W.Frag} {mg:Str → Option Value} {base:Heap} {CP CF CR cN cF:Addr}
theorem sc_product_number:FnScope ["kind", "some", "others", "place", "start", "bound"] ["kind", "some", "others", "place"] (Zag Zbp):=⟨rfl,rfl,rfl,by decide +kernel,rfl,by decide +kernel,by decide +kernel⟩
theorem ZlP (h:Here K mg "product_number" Zbp) (T:Nm mg) (Tmax:mg "max" = none) (Tmin:mg "min" = none) (md:ZiG P w K mg base CF CR):Has P w K mg base "product_number" 4 ["kind", "some", "others", "place"] (Zke CF CR):=by
  refine h.has (fun f fd F => F.binds fun _ _ _ _ _ _ us hl => by obtain ⟨_,_,_,_,rfl⟩:=Zlv hl; exact rfl) fun f fd F => F.ok sc_product_number (fun vs H Q E h => ?_) (fun cdv A outer s H vs Q E hr h => ?_)
  · obtain ⟨_,_,_,_,_,_,_,_,_,_,_,_,_,rfl,_⟩:=h
    rfl
  obtain ⟨κ,sk,fa,ga,xs,ys,f,g,pl,D,E,M,N,rfl,hk,⟨hF,aF⟩,⟨hG,aG⟩,lp,l9,g9,qf,qg,d0,d1,e0,e1,hM,hN,k⟩:=h
  have nd:=sc_product_number.nd
  refine ⟨_,(Zad (Zas (i:=4) nd rfl (Or.inl rfl) (Zak (Zfj rfl) (by rfl) Tmax PyProof.Rows.Boot.max (Zaa Zac (Zaa (Zaj ZaP (Zaj ZbB (pv 3) (Zak Zal (by rfl) T.len boot_len (Zaa (pv 2) Zab))) Zac) Zab))))
    (Zad (Zas (i:=5) nd rfl (Or.inl rfl) (Zak (ZhR rfl) (by rfl) Tmin PyProof.Rows.Boot.min (Zaa (Zaj ZaP (pv 3) Zac) (Zaa (Zak Zal (by rfl) T.len boot_len (Zaa (pv 1) Zab)) Zab))))
    (Zae (Zai (ZaA (pv 0) hr (Zaa (Zbt ZbY (pv 1) (ZbO (pv 4)) (ZbO (pv 5))) (Zaa (Zdf ["each"] [(2, "others"),(3, "place")] rfl (ZhM (by rfl) T.range (Zaa (pv 4) (Zaa (pv 5) Zab))) (by exact fun _ _ _ _ => (ZaH (i:=0) (show (["each", "others", "place"]:List Str).Nodup by decide +kernel) rfl (Or.inl rfl))) (by exact fun _ _ _ _ => (Zar (Zjn K rfl) (pv 1) (Zaj ZbB (pv 2) (pv 0)) (fun _ _ => rfl))) ⟨⟨rfl,rfl,Or.inl rfl⟩,⟨⟨rfl,rfl,Or.inl rfl⟩,trivial⟩⟩) Zab))))))),?_⟩
  have lx:=aF.1
  have ly:=aG.1
  refine ⟨_,rfl,_,rfl,ga,_,rfl,.inl (SqL.of hG),_,_,rfl,rfl,_,_,rfl,rfl,_,_,rfl,?_⟩
  obtain ⟨st,est,hst⟩:∃ st:Nat,(if (pl:Int) - (ys.length:Int) + 1 > 0 then (pl:Int) - (ys.length:Int) + 1 else 0) = (st:Int) ∧ st = pl + 1 - g.length:=⟨pl + 1 - g.length,by split <;> omega,rfl⟩
  show Zdt 4 (V.int (if (pl:Int) - (ys.length:Int) + 1 > 0 then (pl:Int) - (ys.length:Int) + 1 else 0)) _ H _
  rw [est]
  refine ⟨_,rfl,_,_,rfl,rfl,_,rfl,fa,_,rfl,.inl (SqL.of hF),_,_,rfl,?_⟩
  obtain ⟨b,eb,hb⟩:∃ b:Nat,(if (xs.length:Int) < (pl:Int) + 1 then (xs.length:Int) else (pl:Int) + 1) = (b:Int) ∧ b = min (pl + 1) f.length:=⟨min (pl + 1) f.length,by split <;> omega,rfl⟩
  show Zdt 5 (V.int (if (xs.length:Int) < (pl:Int) + 1 then (xs.length:Int) else (pl:Int) + 1)) _ H _
  rw [eb]
  have sb:st ≤ b:=by omega
  obtain ⟨Cd,dxd,fsd,psd,dvd,spd,k1,k2,k3,k4,rfl,k5⟩:=md κ H sk hk
  refine ⟨_,rfl,sk,Cd,dxd,fsd,psd,_,spd,rfl,k1,k2,k3.mono (by decide),k4,_,rfl,_,rfl,_,rfl,_,rfl,_,rfl,fa,xs,rfl,SqL.of hF,fun sl nsl => ?_⟩
  rw [ZjG xs sb (by omega)]
  have Ss:=Zah nsl (.lst ((xs.drop st).take (b - st)))
  have qs:=Zaf (H:=H) (a:=sl) (o:=.lst ((xs.drop st).take (b - st)))
  generalize upd H sl (.lst ((xs.drop st).take (b - st))) = H1 at *
  refine ⟨_,rfl,_,rfl,_,_,rfl,⟨by omega,by omega,by omega,by omega⟩,?_⟩
  rw [show ((b:Int) - (st:Int)).toNat = b - st by omega]
  refine Zcx (lo:=(st:Int)) (n:=b - st) (fun q zs H2 => H2 = H1 ∧ AllG (NR κ H1) zs ((List.range q).map fun i => g.getD (pl - (st + i)) 0)) (by omega) ⟨rfl,.nil⟩ ?_ ?_
  · rintro q zs H2 hq _ ⟨rfl,e⟩
    obtain ⟨v,hv,nv⟩:=Zbr aG (i:=pl - (st + q)) (by omega)
    refine ⟨_,rfl,_,rfl,_,rfl,_,_,rfl,rfl,ga,_,_,v,rfl,rfl,SqL.of (Ss _ _ hG),?_,rfl,?_⟩
    · rw [show (pl:Int) - ((st:Int) + (q:Int)) = ((pl - (st + q):Nat):Int) by omega]
      exact Za4 hv
    · rw [List.range_succ,List.map_append]
      exact e.append (.one (nv.same Ss))
  rintro zs H2 _ ⟨rfl,e⟩ lz nlz
  have Sz:=Zah nlz (.lst zs)
  have qz:=Zaf (H:=H2) (a:=lz) (o:=.lst zs)
  generalize upd H2 lz (.lst zs) = H3 at *
  have S03:=Ss.trans Sz
  have lsl:((f.drop st).take (b - st)).length = b - st:=by rw [List.length_take,List.length_drop]; omega
  refine k5 H3 sl lz _ zs ((f.drop st).take (b - st)) ((List.range (b - st)).map fun i => g.getD (pl - (st + i)) 0) D E M N _ S03 (Sz _ _ qs) qz (ZiO (aF.mono fun _ _ n => n.same S03)) (e.mono fun _ _ n => n.same Sz) (by rw [lsl,List.length_map,List.length_range]) (by omega) (fun x hx => qf x (List.mem_of_mem_drop (List.mem_of_mem_take hx))) (fun x hx => ?_) d0 d1 e0 e1 hM hN fun H4 v S4 nv => ?_
  · obtain ⟨i,hi,rfl⟩:=List.mem_map.mp hx
    exact Zkc qg _
  · rw [ZjF hst hb sb] at nv
    exact k H4 v (S03.trans S4) nv
theorem Zdl:FnScope ["self", "under"] ["self", "under"] (Zag Zbq):=⟨rfl,rfl,rfl,by decide +kernel,rfl,by decide +kernel,by decide +kernel⟩
theorem ZjH (h:HereI K CP "Polys.__init__" Zbq) (pc:Pc K mg CP):HasI P w K mg base CP 1 ["self", "under"] (Zg7 CP):=by
  refine h.hasI (fun f fd F => F.binds fun _ _ _ _ _ _ us hl => by obtain ⟨_,_,rfl⟩:=Zdg hl; exact rfl) fun f fd F => F.ok Zdl (fun vs H Q E h => ?_) (fun cdv A outer s H vs Q E hr h => ?_)
  · obtain ⟨_,_,_,rfl,_⟩:=h
    rfl
  obtain ⟨x,dx,kk,rfl,hx,k⟩:=h
  refine ⟨_,(Zae (ZjU (pv 0) (pv 1) rfl)),?_⟩
  exact ⟨_,rfl,_,rfl,x,CP,dx,_,rfl,hx,pc.cl,pc.nU,(by show 0 < 1000; decide),k⟩
theorem sc_Polys_times:FnScope ["self", "one", "other", "count"] ["self", "one", "other"] (Zag Zb5):=⟨rfl,rfl,rfl,by decide +kernel,rfl,by decide +kernel,by decide +kernel⟩
theorem ZiP (h:HereM K CP "times" "Polys.times" Zb5) (T:Nm mg) (pc:Pc K mg CP) (h_trimmed:Has P w K mg base "trimmed" 4 ["kind", "numbers"] (Zbz CF CR)) (h_product_number:Has P w K mg base "product_number" 4 ["kind", "some", "others", "place"] (Zke CF CR)):HasM P w K mg base CP "times" 5 ["self", "one", "other"] [] (Zeb CP CF CR):=by
  refine h.hasM (fun f fd F => F.binds fun _ _ _ _ _ _ us hl => by obtain ⟨_,_,_,rfl⟩:=Zdv hl; exact rfl) fun f fd F => F.ok sc_Polys_times (fun vs H Q E h => ?_) (fun cdv A outer s H vs Q E hr h => ?_)
  · obtain ⟨_,_,_,_,_,_,_,_,_,_,_,_,rfl,_⟩:=h
    rfl
  obtain ⟨κ,po,fa,ga,xs,ys,F,G,D,E,M,N,rfl,⟨dxp,sk,hpo,hk⟩,pF,pG,lF,lG,qF,qG,d0,d1,e0,e1,hM,hN,k⟩:=h
  have nd:=sc_Polys_times.nd
  refine ⟨_,(Zad (Zas (i:=3) nd rfl (Or.inl rfl) (Zaj ZbB (Zaj ZaP (Zak Zal (by rfl) T.len boot_len (Zaa (pv 1) Zab)) (Zak Zal (by rfl) T.len boot_len (Zaa (pv 2) Zab))) Zac))
    (Zae (Zai (Zam h_trimmed hr (by rfl) (Zaa (Zbj (pv 0) rfl) (Zaa (Zdf ["place"] [(0, "self"),(1, "one"),(2, "other")] rfl (ZbA (by rfl) T.range (Zaa (pv 3) Zab)) (by exact fun _ _ _ _ => (ZaH (i:=0) (show (["place", "self", "one", "other"]:List Str).Nodup by decide +kernel) rfl (Or.inl rfl))) (by exact fun _ _ _ _ => (Zam h_product_number hr (by rfl) (Zaa (Zea K rfl (pv 1) rfl) (Zaa (pv 2) (Zaa (pv 3) (Zaa (pv 0) Zab)))))) ⟨⟨rfl,rfl,Or.inl rfl⟩,⟨⟨rfl,rfl,Or.inl rfl⟩,⟨⟨rfl,rfl,Or.inl rfl⟩,trivial⟩⟩⟩) Zab)))))),?_⟩
  have lx:=pF.al.1
  have ly:=pG.al.1
  refine ⟨_,rfl,fa,_,rfl,.inl (SqL.of pF.l),_,rfl,ga,_,rfl,.inl (SqL.of pG.l),_,_,rfl,rfl,_,_,rfl,rfl,?_⟩
  refine ⟨_,rfl,po,CP,dxp,_,_,rfl,hpo,pc.cl,pc.nU,rfl,_,rfl,(xs.length:Int) + (ys.length:Int) - 1,rfl,by omega,by omega,?_⟩
  rw [show ((xs.length:Int) + (ys.length:Int) - 1).toNat = F.length + G.length - 1 by omega]
  refine Zcx (lo:=0) (n:=F.length + G.length - 1) (fun q zs H2 => Same H H2 ∧ AllG (NR κ H2) zs ((List.range q).map fun i => (sr F * sr G).c i)) (by omega) ⟨Same.refl _,.nil⟩ ?_ ?_
  · rintro q zs H2 hq _ ⟨S2,e⟩
    refine ⟨_,rfl,po,CP,dxp,_,_,rfl,S2 _ _ hpo,pc.cl,pc.nU,rfl,_,rfl,_,rfl,_,rfl,κ,sk,fa,ga,xs,ys,F,G,q,D,E,M,N,(by rw [Int.zero_add]; rfl),hk.same S2,pF.same S2,pG.same S2,by omega,lF,lG,qF,qG,d0,d1,e0,e1,hM,hN,fun H3 v S3 nv => ⟨S2.trans S3,?_⟩⟩
    rw [List.range_succ,List.map_append]
    exact (e.mono fun _ _ n => n.same S3).append (.one nv)
  · rintro zs H2 _ ⟨S2,e⟩ D' nD
    have SD:=Zah nD (.lst zs)
    have qD:=Zaf (H:=H2) (a:=D') (o:=.lst zs)
    generalize upd H2 D' (.lst zs) = H3 at *
    have S3:=S2.trans SD
    refine ⟨κ,sk,D',zs,_,rfl,hk.same S3,qD,e.mono (fun _ _ n => n.same SD),fun H4 R r S4 nR hR lr r0 r1 => ?_⟩
    rw [List.length_map,List.length_range] at lr
    refine k H4 R _ (((List.range (F.length + G.length - 1)).map fun i => (sr F * sr G).c i).take r) (S3.trans S4) (S3.free nR) ⟨hR,Zbw (e.mono fun _ _ n => (n.same SD).same S4) r⟩ (Za0 (by rw [List.length_map,List.length_range]; exact lr) r1) ?_ ?_
    · refine Rg.Ps.ext fun j => ?_
      rw [Zfh,ZfK r0]
      by_cases hj:j < F.length + G.length - 1
      · rw [List.getD_eq_getElem?_getD,List.getElem?_map,List.getElem?_range hj]; rfl
      · rw [Zax (by rw [List.length_map,List.length_range]; omega),Zkb,ZiE (by omega)]
    · rw [List.length_take,List.length_map,List.length_range]; omega
theorem sc_Polys_plus:FnScope ["self", "one", "other", "both"] ["self", "one", "other"] (Zag Zcm):=⟨rfl,rfl,rfl,by decide +kernel,rfl,by decide +kernel,by decide +kernel⟩
theorem ZjI (h:HereM K CP "plus" "Polys.plus" Zcm) (T:Nm mg) (Tz:mg "zip" = none) (pc:Pc K mg CP) (mp:ZkK P w K mg base CF CR "plus" (fun _ x y => x + y)) (h_trimmed:Has P w K mg base "trimmed" 4 ["kind", "numbers"] (Zbz CF CR)):HasM P w K mg base CP "plus" 5 ["self", "one", "other"] [] (Ze8 CP CF CR):=by
  refine h.hasM (fun f fd F => F.binds fun _ _ _ _ _ _ us hl => by obtain ⟨_,_,_,rfl⟩:=Zdv hl; exact rfl) fun f fd F => F.ok sc_Polys_plus (fun vs H Q E h => ?_) (fun cdv A outer s H vs Q E hr h => ?_)
  · obtain ⟨_,_,_,_,_,_,_,_,rfl,_⟩:=h
    rfl
  obtain ⟨κ,po,fa,ga,xs,ys,F,G,rfl,⟨dxp,sk,hpo,hk⟩,pF,pG,lF,lG,bF,bG,k⟩:=h
  have nd:=sc_Polys_plus.nd
  refine ⟨_,(Zad (Zet (i:=3) ["left", "right"] [(0, "self")] nd rfl rfl rfl (Zif (by rfl) Tz (Zaa (pv 1) (Zaa (pv 2) Zab))) (by exact fun _ _ _ _ => (Zih (n:=2) K rfl rfl (Zcv (ZaH (i:=0) (show (["left", "right", "self"]:List Str).Nodup by decide +kernel) rfl (Or.inl rfl)) (Zcv (ZaH (i:=1) (show (["left", "right", "self"]:List Str).Nodup by decide +kernel) rfl (Or.inl rfl)) ZfX)))) (by exact fun _ _ _ _ => (ZdO ⟨rfl,rfl,rfl,rfl,rfl⟩ (Zea K rfl (pv 2) rfl) hr (Zaa (pv 0) (Zaa (pv 1) Zab)))) ⟨⟨rfl,rfl,Or.inl rfl⟩,trivial⟩)
    (Zae (Zai (Zam h_trimmed hr (by rfl) (Zaa (Zbj (pv 0) rfl) (Zaa (Zaj ZcS (Zaj ZcS (pv 3) (Zbt ZbY (pv 1) (ZbO (Zak Zal (by rfl) T.len boot_len (Zaa (pv 3) Zab))) Zce)) (Zbt ZbY (pv 2) (ZbO (Zak Zal (by rfl) T.len boot_len (Zaa (pv 3) Zab))) Zce)) Zab)))))),?_⟩
  have lx:=pF.al.1
  have ly:=pG.al.1
  refine ⟨_,rfl,_,rfl,fa,ga,rfl,⟨_,SqL.of pF.l⟩,⟨_,SqL.of pG.l⟩,?_⟩
  refine ZfE (K:=K) (a:=fa) (b:=ga) (xs:=xs) (ys:=ys) (fun m zs H2 => Same H H2 ∧ AllG (NR κ H2) zs (List.zipWith (· + ·) (F.take m) (G.take m))) (by omega) ⟨Same.refl _,.nil⟩ (fun m zs H2 q => ⟨SqL.of (q.1 _ _ pF.l),SqL.of (q.1 _ _ pG.l)⟩) ?_ ?_
  · rintro m x y T0 ws H2 hx' hy' hl nT ⟨S,al'⟩
    obtain ⟨xp,xq,hxp,hxq,np,nq⟩:=pF.al.zip pG.al hx' hy'
    have ST:=Zah nT (.tup [x,y])
    generalize upd H2 T0 (.tup [x,y]) = H3 at *
    have S3:=S.trans ST
    obtain ⟨C,dx,fs,ps,dvs,sp,h1,h2,h3,h4,rfl,h5⟩:=mp κ H3 sk (hk.same S3)
    refine ⟨_,rfl,po,CP,dxp,_,_,rfl,S3 _ _ hpo,pc.cl,pc.nU,rfl,sk,C,dx,fs,ps,_,sp,rfl,h1,h2,h3.mono (by decide),h4,_,rfl,_,rfl,h5 H3 x y xp xq _ (Same.refl _) (np.same S3) (nq.same S3) (bF xp (List.mem_of_getElem? hxp)) (bG xq (List.mem_of_getElem? hxq)) fun t H4 S4 nt => ⟨S3.trans S4,?_⟩⟩
    rw [List.take_succ,hxp,List.take_succ,hxq]
    have lp:=(List.getElem?_eq_some_iff.mp hxp).1
    have lq:=(List.getElem?_eq_some_iff.mp hxq).1
    rw [show (some xp).toList = [xp] from rfl,show (some xq).toList = [xq] from rfl,List.zipWith_append (by rw [List.length_take,List.length_take]; omega)]
    exact (al'.mono fun _ _ n => n.same (ST.trans S4)).append (.one nt)
  · rintro zs H2 hl ⟨S,al'⟩ ba nba
    have ez:List.zipWith (· + ·) (F.take (min xs.length ys.length)) (G.take (min xs.length ys.length)) = List.zipWith (· + ·) F G:=by
      rw [← List.take_zipWith,List.take_of_length_le]
      rw [List.length_zipWith]
      omega
    rw [ez] at al'
    have lz:zs.length = min F.length G.length:=by rw [hl,lx,ly]
    have Sb:=Zah nba (.lst zs)
    have qb:=Zaf (H:=H2) (a:=ba) (o:=.lst zs)
    generalize upd H2 ba (.lst zs) = H3 at *
    have S3:=S.trans Sb
    refine ⟨_,rfl,po,CP,dxp,_,_,rfl,S3 _ _ hpo,pc.cl,pc.nU,rfl,_,rfl,_,rfl,_,rfl,ba,_,rfl,.inl (SqL.of qb),_,rfl,fa,_,rfl,SqL.of (S3 _ _ pF.l),fun p1 np1 => ?_⟩
    rw [Zc1 _ zs.length]
    have T1:=Zah np1 (.lst (xs.drop zs.length))
    have w1:=Zaf (H:=H3) (a:=p1) (o:=.lst (xs.drop zs.length))
    generalize upd H3 p1 (.lst (xs.drop zs.length)) = H4 at *
    have sl:(200:Nat) ≤ sizeLine:=by decide
    refine ⟨ba,p1,_,_,rfl,rfl,T1 _ _ qb,w1,(by rw [List.length_drop]; omega),fun p2 np2 => ?_⟩
    have T2:=Zah np2 (.lst (zs ++ xs.drop zs.length))
    have w2:=Zaf (H:=H4) (a:=p2) (o:=.lst (zs ++ xs.drop zs.length))
    generalize upd H4 p2 (.lst (zs ++ xs.drop zs.length)) = H5 at *
    have S5:=S3.trans (T1.trans T2)
    refine ⟨_,rfl,_,rfl,ba,_,rfl,.inl (SqL.of (T2 _ _ (T1 _ _ qb))),_,rfl,ga,_,rfl,SqL.of (S5 _ _ pG.l),fun p3 np3 => ?_⟩
    rw [Zc1 _ zs.length]
    have T3:=Zah np3 (.lst (ys.drop zs.length))
    have w3:=Zaf (H:=H5) (a:=p3) (o:=.lst (ys.drop zs.length))
    generalize upd H5 p3 (.lst (ys.drop zs.length)) = H6 at *
    refine ⟨p2,p3,_,_,rfl,rfl,T3 _ _ w2,w3,(by rw [List.length_append,List.length_drop,List.length_drop]; omega),fun p4 np4 => ?_⟩
    have T4:=Zah np4 (.lst (zs ++ xs.drop zs.length ++ ys.drop zs.length))
    have w4:=Zaf (H:=H6) (a:=p4) (o:=.lst (zs ++ xs.drop zs.length ++ ys.drop zs.length))
    generalize upd H6 p4 (.lst (zs ++ xs.drop zs.length ++ ys.drop zs.length)) = H7 at *
    have S37:=T1.trans (T2.trans (T3.trans T4))
    have S7:=S3.trans S37
    have aW:AllG (NR κ H7) (zs ++ xs.drop zs.length ++ ys.drop zs.length) (plP F G):=by
      unfold plP
      rw [lz]
      exact ((al'.mono fun _ _ n => (n.same Sb).same S37).append ((pF.al.mono fun _ _ n => n.same S7).drop _)).append ((pG.al.mono fun _ _ n => n.same S7).drop _)
    refine ⟨κ,sk,p4,_,plP F G,rfl,hk.same S7,w4,aW,fun H8 R r S8 nR hR lr r0 r1 => ?_⟩
    refine k H8 R _ ((plP F G).take r) (S7.trans S8) (S7.free nR) ⟨hR,Zbw (aW.mono fun _ _ n => n.same S8) r⟩ (Za0 lr r1) (Rg.Ps.ext fun j => ?_) (by rw [List.length_take,ZkX]; omega)
    rw [Zfh,ZfK r0,ZkW,Rg.Ps.c_add,Zfh,Zfh]
theorem sc_Polys_minus:FnScope ["self", "one", "other"] ["self", "one", "other"] (Zag Zb4):=⟨rfl,rfl,rfl,by decide +kernel,rfl,by decide +kernel,by decide +kernel⟩
theorem ZiQ (h:HereM K CP "minus" "Polys.minus" Zb4) (T:Nm mg) (pc:Pc K mg CP) (mm:ZlC P w K mg base CF CR) (mn:ZiA P w K mg base CF CR) (hP:HasM P w K mg base CP "plus" 5 ["self", "one", "other"] [] (Ze8 CP CF CR)):HasM P w K mg base CP "minus" 6 ["self", "one", "other"] [] (ZfM CP CF CR):=by
  refine h.hasM (fun f fd F => F.binds fun _ _ _ _ _ _ us hl => by obtain ⟨_,_,_,rfl⟩:=Zdv hl; exact rfl) fun f fd F => F.ok sc_Polys_minus (fun vs H Q E h => ?_) (fun cdv A outer s H vs Q E hr h => ?_)
  · obtain ⟨_,_,_,_,_,_,_,_,rfl,_⟩:=h
    rfl
  obtain ⟨κ,po,fa,ga,xs,ys,F,G,rfl,⟨dxp,sk,hpo,hk⟩,pF,pG,lF,lG,bF,bG,k⟩:=h
  have nd:=sc_Polys_minus.nd
  refine ⟨_,(Zae (Zai (ZaA (pv 0) hr (Zaa (pv 1) (Zaa (Zdf ["each"] [(0, "self")] rfl (ZcH (pv 2)) (by exact fun _ _ _ _ => (ZaH (i:=0) (show (["each", "self"]:List Str).Nodup by decide +kernel) rfl (Or.inl rfl))) (by exact fun _ _ _ _ => (ZdO ⟨rfl,rfl,rfl,rfl,rfl⟩ (Zea K rfl (pv 1) rfl) hr (Zaa (Zig ⟨rfl,rfl,rfl,rfl,rfl⟩ (Zea K rfl (pv 1) rfl) ZeQ hr (Zaa Zac Zab)) (Zaa (pv 0) Zab)))) ⟨⟨rfl,rfl,Or.inl rfl⟩,trivial⟩) Zab))))),?_⟩
  have ly:=pG.al.1
  refine ⟨_,rfl,po,CP,dxp,_,_,_,_,rfl,hpo,pc.cl,hP,rfl,_,rfl,_,rfl,ga,rfl,⟨_,SqL.of pG.l⟩,?_⟩
  refine ZdL (K:=K) (a:=ga) (xs:=ys) (fun i zs H2 => Same H H2 ∧ AllG (NR κ H2) zs ((G.take i).map fun x => 0 - x)) (by omega) ⟨Same.refl H,.nil⟩ (fun i zs H2 _ q => SqL.of (q.1 _ _ pG.l)) ?_ ?_
  · rintro i x zs H2 hx hl ⟨S,e⟩
    obtain ⟨y,hy,ny⟩:=pG.al.get hx
    obtain ⟨C',dx',fs',ps',dvs',sp',d1,d2,d3,d4,rfl,d5⟩:=mm κ H2 sk (hk.same S)
    obtain ⟨C,dx,fs,ps,dvs,sp,c1,c2,c3,c4,rfl,c5⟩:=mn κ H2 sk (hk.same S)
    refine ⟨_,rfl,po,CP,dxp,_,_,rfl,S _ _ hpo,pc.cl,pc.nU,rfl,sk,C',dx',fs',ps',_,sp',rfl,d1,d2,d3.mono (by decide),d4,_,rfl,po,CP,dxp,_,_,rfl,S _ _ hpo,pc.cl,pc.nU,rfl,sk,C,dx,fs,ps,_,sp,rfl,c1,c2,c3.mono (by decide),c4,c5 H2 0 0 _ _ (Same.refl _) Zgi fun v H3 S3 nv => ?_⟩
    refine ⟨_,rfl,d5 H3 v x 0 y _ S3 nv (ny.same (S.trans S3)) ZkO (bG y (List.mem_of_getElem? hy)) fun t H4 S4 nt => ?_⟩
    refine ⟨S.trans (S3.trans S4),?_⟩
    rw [List.take_succ,hy,List.map_append]
    exact (e.mono fun _ _ n => n.same (S3.trans S4)).append (.one nt)
  · rintro zs H2 hl ⟨S2,e2⟩ na nna
    rw [ly,List.take_length] at e2
    have Sn:=Zah nna (.lst zs)
    have qn:=Zaf (H:=H2) (a:=na) (o:=.lst zs)
    generalize upd H2 na (.lst zs) = H3 at *
    have S3:=S2.trans Sn
    refine ⟨κ,po,fa,na,xs,zs,F,_,rfl,⟨dxp,sk,S3 _ _ hpo,hk.same S3⟩,pF.same S3,⟨qn,e2.mono fun _ _ n => n.same Sn⟩,lF,by rw [List.length_map]; exact lG,bF,(fun x hx => ?_),fun H4 R ws T S4 nR pT tT eT lT => ?_⟩
    · obtain ⟨y,hy,rfl⟩:=List.mem_map.mp hx
      exact ZlB (bG y hy)
    · rw [List.length_map] at lT
      refine k H4 R ws T (S3.trans S4) (S3.free nR) pT tT ?_ lT
      rw [eT]
      refine Rg.Ps.ext fun j => ?_
      rw [Rg.Ps.c_add,Rg.Ps.c_sub,Zfh,Zfh,Zfh,List.getD_eq_getElem?_getD (l:=G.map fun x => 0 - x),List.getElem?_map,List.getD_eq_getElem?_getD (l:=G)]
      cases G[j]? with
      | none => show _ + (0:κ.F) = _ - 0; generalize F.getD j 0 = z; grind
      | some y => show _ + (0 - y) = _ - y; generalize F.getD j 0 = z; grind
end
end My
namespace My
open PySem L2 PyProof.Rows
def Sm (x:V):Prop:=(∃ i:Int,x = .int i) ∨ (∃ b,x = .bl b) ∨ x = .non ∨ ∃ s,x = .str s
def Th (H:Hp) (v:V):Prop:=Sm v ∨ (∃ a xs,v = .ref a ∧ H a = some (.lst xs)) ∨ (∃ a,v = .ref a ∧ H a = some (.dK [])) ∨ (∃ a xs,v = .ref a ∧ H a = some (.tup xs) ∧ ∀ x ∈ xs,Sm x)
theorem Th.same {H H':Hp} {v:V} (h:Th H v) (S:Same H H'):Th H' v:=by
  rcases h with h | ⟨a,xs,e,h⟩ | ⟨a,e,h⟩ | ⟨a,xs,e,h,r⟩
  · exact .inl h
  · exact .inr (.inl ⟨a,xs,e,S _ _ h⟩)
  · exact .inr (.inr (.inl ⟨a,e,S _ _ h⟩))
  · exact .inr (.inr (.inr ⟨a,xs,e,S _ _ h,r⟩))
def isW:V → Bool
  | .int _ => true
  | _ => false
theorem Zbx (K:PySem.W.Frag) {t T:String} (h0:((Value.type t) == (Value.type T)) = false) (h1:PySem.W.kitMeta T = true) (h:(PySem.fastBuiltinMro t).map (·.contains (Value.type T)) = some false):PySem.W.kitOne K (.type t) (.type T) = some false:=ZeM K h0 h1 h
theorem Th.ty {K:PySem.W.Frag} {H:Hp} {v:V} (h:Th H v):∃ (T:String) (b1 b2 b3:Bool),TyX K H v (.type T) ∧ PySem.W.kitOne K (.type T) (.type "int") = some b1 ∧ PySem.W.kitOne K (.type T) (.type "bool") = some b2 ∧ PySem.W.kitOne K (.type T) (.type "tuple") = some b3 ∧ (b1 && !b2) = isW v ∧ (b3 = true → ∃ a xs,v = .ref a ∧ H a = some (.tup xs) ∧ ∀ x ∈ xs,Sm x) ∧ (b3 = false → ∀ a xs,v = .ref a → H a ≠ some (.tup xs)):=by
  rcases h with (⟨i,rfl⟩ | ⟨b,rfl⟩ | rfl | ⟨s,rfl⟩) | ⟨a,xs,rfl,h⟩ | ⟨a,rfl,h⟩ | ⟨a,xs,rfl,h,r⟩
  · exact ⟨"int", true,false,false,.of (.int i),Za7 K _,Zcg K,Zbx K (by decide +kernel) (by decide +kernel) (by decide +kernel),rfl,fun z => (nomatch z),fun _ a xs e => (nomatch e)⟩
  · exact ⟨"bool", true,true,false,.of (.bl b),Zft K,Za7 K _,Zbx K (by decide +kernel) (by decide +kernel) (by decide +kernel),rfl,fun z => (nomatch z),fun _ a xs e => (nomatch e)⟩
  · exact ⟨"NoneType", false,false,false,.of .non,Zbx K (by decide +kernel) (by decide +kernel) (by decide +kernel),Zbx K (by decide +kernel) (by decide +kernel) (by decide +kernel),Zbx K (by decide +kernel) (by decide +kernel) (by decide +kernel),rfl,fun z => (nomatch z),fun _ a xs e => (nomatch e)⟩
  · exact ⟨"str", false,false,false,.of (.str s),Zbx K (by decide +kernel) (by decide +kernel) (by decide +kernel),Zbx K (by decide +kernel) (by decide +kernel) (by decide +kernel),Zbx K (by decide +kernel) (by decide +kernel) (by decide +kernel),rfl,fun z => (nomatch z),fun _ a xs e => (nomatch e)⟩
  · exact ⟨"list", false,false,false,.of (.lst h),Zbx K (by decide +kernel) (by decide +kernel) (by decide +kernel),Zbx K (by decide +kernel) (by decide +kernel) (by decide +kernel),Zbx K (by decide +kernel) (by decide +kernel) (by decide +kernel),rfl,fun z => (nomatch z),fun _ b ys e q => by cases e; rw [h] at q; cases q⟩
  · exact ⟨"dict", false,false,false,.of (.dK h),Zbx K (by decide +kernel) (by decide +kernel) (by decide +kernel),Zbx K (by decide +kernel) (by decide +kernel) (by decide +kernel),Zbx K (by decide +kernel) (by decide +kernel) (by decide +kernel),rfl,fun z => (nomatch z),fun _ b ys e q => by cases e; rw [h] at q; cases q⟩
  · exact ⟨"tuple", false,false,true,.of (.tup h),Zbx K (by decide +kernel) (by decide +kernel) (by decide +kernel),Zbx K (by decide +kernel) (by decide +kernel) (by decide +kernel),Za7 K _,rfl,fun _ => ⟨a,xs,rfl,h,r⟩,fun z => (nomatch z)⟩
def Zec:Sp:=fun vs H Q _ => ∃ v,vs = [v] ∧ Th H v ∧ Q (.bl (isW v)) H
def FrB (H:Hp) (v:V) (b:Bool):Prop:=(∃ t x y,v = .ref t ∧ H t = some (.tup [.int x,.int y]) ∧ b = (decide (1 ≤ y) && decide (Int.gcd x y = 1))) ∨ ((∀ t x y,v = .ref t → H t ≠ some (.tup [.int x,.int y])) ∧ b = false)
theorem FrB.det {H:Hp} {v:V} {b c:Bool} (h:FrB H v b) (h':FrB H v c):b = c:=by
  rcases h with ⟨t,x,y,rfl,q,rfl⟩ | ⟨n,rfl⟩
  · rcases h' with ⟨t',x',y',e,q',rfl⟩ | ⟨n,_⟩
    · cases e; rw [q] at q'; cases q'; rfl
    · exact absurd q (n t x y rfl)
  · rcases h' with ⟨t',x',y',e,q',rfl⟩ | ⟨_,rfl⟩
    · exact absurd q' (n t' x' y' e)
    · rfl
def RsB (p:Int) (v:V) (b:Bool):Prop:=(∃ i,v = .int i ∧ b = (decide (0 ≤ i) && decide (i < p))) ∨ (isW v = false ∧ b = false)
theorem RsB.det {p:Int} {v:V} {b c:Bool} (h:RsB p v b) (h':RsB p v c):b = c:=by
  rcases h with ⟨i,rfl,rfl⟩ | ⟨n,rfl⟩
  · rcases h' with ⟨j,e,rfl⟩ | ⟨n,_⟩
    · cases e; rfl
    · exact (nomatch n)
  · rcases h' with ⟨j,rfl,rfl⟩ | ⟨_,rfl⟩
    · exact (nomatch n)
    · rfl
theorem Zgq {v:V} (h:isW v = true):∃ i,v = .int i:=by
  cases v <;> first | exact ⟨_,rfl⟩ | exact (nomatch h)
section
variable {P:Program} {w:World} {K:PySem.W.Frag} {mg:Str → Option Value} {base:Heap} {CF CR cK:Addr}
theorem ZfN:FnScope ["thing"] ["thing"] (Zag ZbT):=⟨rfl,rfl,rfl,by decide +kernel,rfl,by decide +kernel,by decide +kernel⟩
theorem ZfO (h:Here K mg "is_whole" ZbT) (T:Nm mg):Has P w K mg base "is_whole" 1 ["thing"] Zec:=by
  refine h.has (fun f fd F => F.binds fun _ _ _ _ _ _ us hl => by obtain ⟨_,rfl⟩:=Zjl hl; exact rfl) fun f fd F => F.ok ZfN (fun vs H Q E h => ?_) (fun cdv A outer s H vs Q E hr h => ?_)
  · obtain ⟨_,rfl,_⟩:=h
    rfl
  obtain ⟨v,rfl,th,k⟩:=h
  refine ⟨_,(Zae (Zai (Zca (Zak Zau (by rfl) T.isinstance boot_isinstance (Zaa (pv 0) (Zaa (Zdu (by rfl) T.int boot_int) Zab))) (ZbG (Zgy (Zak Zau (by rfl) T.isinstance boot_isinstance (Zaa (pv 0) (Zaa (Zdu (by rfl) T.bool boot_bool) Zab)))))))),?_⟩
  obtain ⟨Ty,b1,b2,b3,ty,k1,k2,k3,e,_,_⟩:=th.ty (K:=K)
  refine ⟨_,rfl,_,_,_,_,rfl,ty,.ty k1,_,rfl,?_⟩
  rw [← e] at k
  cases b1 with
  | false => exact ZbE k
  | true => exact Zei ⟨_,rfl,_,_,_,_,rfl,ty,.ty k2,_,rfl,k⟩
end
end My
namespace My
open PySem L2 PyProof.Rows
def ZdA (X:Hp → Addr → Prop) (B:Hp → Addr → V → Bool → Prop):Sp:=fun vs H Q _ => ∃ (s:Addr) (v:V),vs = [.ref s,v] ∧ X H s ∧ Th H v ∧ ∀ b,B H s v b → Q (.bl b) H
theorem Zmr {xs:List V} (h:xs.length = 2):∃ x y,xs = [x,y]:=by
  match xs,h with
  | [x,y],_ => exact ⟨x,y,rfl⟩
theorem ZlQ {H:Hp} {v:V} (h:∀ a xs,v = .ref a → H a ≠ some (.tup xs)):FrB H v false:=.inr ⟨fun t x y e => h t _ e,rfl⟩
theorem ZkY {H:Hp} {a:Addr} {xs:List V} (q:H a = some (.tup xs)) (h:xs.length ≠ 2):FrB H (.ref a) false:=.inr ⟨fun t x y e z => by cases e; rw [q] at z; cases z; exact h rfl,rfl⟩
theorem Zkf {H:Hp} {a:Addr} {x y:V} (q:H a = some (.tup [x,y])) (h:isW x = false ∨ isW y = false):FrB H (.ref a) false:=.inr ⟨fun t i j e z => by cases e; rw [q] at z; cases z; rcases h with h | h <;> exact (nomatch h),rfl⟩
theorem Zgr {H:Hp} {a:Addr} {x y:Int} (q:H a = some (.tup [.int x,.int y])):FrB H (.ref a) (decide (1 ≤ y) && decide (Int.gcd x y = 1)):=.inl ⟨a,x,y,rfl,q,rfl⟩
section
variable {P:Program} {w:World} {K:PySem.W.Frag} {mg:Str → Option Value} {base:Heap} {CF CR CE cK cN cF cT cI cX cM cR:Addr}
theorem Zcc:FnScope ["self", "thing"] ["self", "thing"] (Zag ZaT):=⟨rfl,rfl,rfl,by decide +kernel,rfl,by decide +kernel,by decide +kernel⟩
theorem ZiR (h:HereM K CF "is_number" "Fractions.is_number" ZaT) (T:Nm mg) (h_is_whole:Has P w K mg base "is_whole" 1 ["thing"] Zec) (h_divisor:Has P w K mg base "divisor" 1 ["one", "other"] ZaG):HasM P w K mg base CF "is_number" 2 ["self", "thing"] [] (ZdA (FrA CF) fun H _ v b => FrB H v b):=by
  refine h.hasM (fun f fd F => F.binds fun _ _ _ _ _ _ us hl => by obtain ⟨_,_,rfl⟩:=Zdg hl; exact rfl) fun f fd F => F.ok Zcc (fun vs H Q E h => ?_) (fun cdv A outer s H vs Q E hr h => ?_)
  · obtain ⟨_,_,rfl,_⟩:=h
    rfl
  obtain ⟨sf,v,rfl,_,th,k⟩:=h
  refine ⟨_,(Zad (ZaC (ZbW (ZaN (ZaD (Zak Zau (by rfl) T.isinstance boot_isinstance (Zaa (pv 1) (Zaa (Zdu (by rfl) T.tuple boot_tuple) Zab))))) (ZbF (Zap ZdG (Zak Zal (by rfl) T.len boot_len (Zaa (pv 1) Zab)) Zac (Zan _)))).pt (Zae (Zai ZaX)) Zao)
    (Zad (ZaC (ZbW (ZaN (ZaD (Zam h_is_whole hr (by rfl) (Zaa (Zar Zaq (pv 1) Zac (fun _ _ => rfl)) Zab)))) (ZbF (ZaN (ZaD (Zam h_is_whole hr (by rfl) (Zaa (Zar Zaq (pv 1) Zac (fun _ _ => rfl)) Zab)))))).pt (Zae (Zai ZaX)) Zao)
    (Zae (Zai (Zca (ZaR Zja (Zar Zaq (pv 1) Zac (fun _ _ => rfl)) Zac (Zan _)) (ZbG (ZaR Zbi (Zam h_divisor hr (by rfl) (Zaa (Zar Zaq (pv 1) Zac (fun _ _ => rfl)) (Zaa (Zar Zaq (pv 1) Zac (fun _ _ => rfl)) Zab))) Zac (Zan _)))))))),?_⟩
  obtain ⟨Ty,b1,b2,b3,ty,k1,k2,k3,_,ht,hf⟩:=th.ty (K:=K)
  refine ⟨_,rfl,_,_,_,_,rfl,ty,.ty k3,_,rfl,?_⟩
  cases b3 with
  | false => exact Zei (k _ (ZlQ (hf rfl)))
  | true =>
    obtain ⟨a,xs,rfl,q,sm⟩:=ht rfl
    refine ZbE ⟨_,rfl,a,_,rfl,.inr (SqT.of q),rfl,_,rfl,?_⟩
    refine Zdo (fun z => k _ (ZkY q fun y => z (by rw [y]; rfl))) (fun z => ?_)
    obtain ⟨x,y,rfl⟩:=Zmr (show xs.length = 2 by omega)
    have sx:=sm x (by simp)
    have sy:=sm y (by simp)
    refine ⟨_,rfl,a,_,0,_,rfl,rfl,SqT.of q,rfl,x,rfl,.inl sx,_,rfl,?_⟩
    by_cases wx:isW x = true
    · obtain ⟨i,rfl⟩:=Zgq wx
      refine ZbE ⟨_,rfl,a,_,1,_,rfl,rfl,SqT.of q,rfl,y,rfl,.inl sy,_,rfl,?_⟩
      by_cases wy:isW y = true
      · obtain ⟨j,rfl⟩:=Zgq wy
        refine ZbE ⟨_,rfl,a,_,1,_,rfl,rfl,SqT.of q,rfl,_,_,rfl,rfl,_,rfl,?_⟩
        have kk:=k _ (Zgr q)
        refine ZbI (fun h1 => ?_) (fun h1 => ?_)
        · have h1':1 ≤ j:=h1
          refine ⟨_,rfl,a,_,0,_,rfl,rfl,SqT.of q,rfl,_,rfl,a,_,1,_,rfl,rfl,SqT.of q,rfl,i,j,rfl,rfl,?_⟩
          rw [decide_eq_true h1',Bool.true_and] at kk
          rw [ZeN]
          have e:decide ((Int.gcd i j:Int) = 1) = decide (Int.gcd i j = 1):=by simp only [decide_eq_decide]; omega
          rw [e]
          exact kk
        · have h1':¬ 1 ≤ j:=h1
          rw [decide_eq_false h1',Bool.false_and] at kk
          exact kk
      · have e:isW y = false:=by simpa using wy
        rw [e]
        exact Zei (k _ (Zkf q (.inr e)))
    · have e:isW x = false:=by simpa using wx
      rw [e]
      exact Zei (k _ (Zkf q (.inl e)))
theorem Zc5:FnScope ["self", "thing"] ["self", "thing"] (Zag Zbd):=⟨rfl,rfl,rfl,by decide +kernel,rfl,by decide +kernel,by decide +kernel⟩
theorem ZiS (h:HereM K CR "is_number" "Rests.is_number" Zbd) (cl:Cls K CR) (nP:NoAttr K CR "prime") (h_is_whole:Has P w K mg base "is_whole" 1 ["thing"] Zec):HasM P w K mg base CR "is_number" 2 ["self", "thing"] [] (ZdA (fun H s => ∃ p,ReA CR p H s) fun H s v b => ∀ p,ReA CR p H s → RsB p v b):=by
  refine h.hasM (fun f fd F => F.binds fun _ _ _ _ _ _ us hl => by obtain ⟨_,_,rfl⟩:=Zdg hl; exact rfl) fun f fd F => F.ok Zc5 (fun vs H Q E h => ?_) (fun cdv A outer s H vs Q E hr h => ?_)
  · obtain ⟨_,_,rfl,_⟩:=h
    rfl
  obtain ⟨sr,v,rfl,⟨p,dx,hs⟩,th,k⟩:=h
  refine ⟨_,(Zae (Zai (Zca (Zam h_is_whole hr (by rfl) (Zaa (pv 1) Zab)) (ZbG (ZgB Zi9 ZfY Zac (pv 1) (Zbj (pv 0) rfl)))))),?_⟩
  have det:∀ p',ReA CR p' H sr → p' = p:=fun p' ⟨dx',h'⟩ => by
    rw [hs] at h'
    cases h'
    rfl
  refine ⟨_,rfl,v,rfl,th,_,rfl,?_⟩
  by_cases hw:isW v = true
  · obtain ⟨i,rfl⟩:=Zgq hw
    refine Zei ⟨_,rfl,_,_,rfl,rfl,_,rfl,?_⟩
    refine ZbI (fun h0 => ?_) (fun h0 => ?_)
    · refine ⟨_,rfl,sr,CR,dx,_,_,rfl,hs,cl,nP,Zbk p,_,_,rfl,rfl,?_⟩
      refine k _ fun p' hp' => .inl ⟨i,rfl,?_⟩
      rw [det p' hp',decide_eq_true (show 0 ≤ i from h0),Bool.true_and]
    · refine k _ fun p' hp' => .inl ⟨i,rfl,?_⟩
      rw [decide_eq_false (show ¬ 0 ≤ i from h0),Bool.false_and]
  · have e:isW v = false:=by simpa using hw
    rw [e]
    exact ZbE (k _ fun p' _ => .inr ⟨e,rfl⟩)
end
end My
namespace My
open PySem L2 PyProof.Rows
def ZdB (P:Program) (w:World) (K:PySem.W.Frag) (mg:Str → Option Value) (base:Heap) (CF CR cN:Addr):Prop :=
  ∀ (κ:KX) (H:Hp) (s:Addr),KdX CF CR κ H s → ∃ C dx fs ps dvs sp,H s = some (.ins C dx fs) ∧ Cls K C ∧ HasMX P w K mg base C "number" 3 ps dvs sp ∧ fs.lookup ("number" : Str) = none ∧ dvs = [] ∧
    ∀ (H':Hp) (t b:Int) (x y:κ.F) (Q:VK) (E:XK),Same H H' → NumV κ t x → NumV κ b y → b.natAbs ≤ 10 ^ 100 → (y = 0 → E (.ref cN) none H') → (y ≠ 0 → ∀ v H'' (z:κ.F),Same H' H'' → NR κ H'' v z → z * y = x → QN κ (b.natAbs:Int) t.natAbs z → Q v H'') → sp [.ref s,.int t,.int b] H' Q E
theorem ZkZ {n d t b:Int} {x y z:Rat} (hd:0 < d) (e:n * b = t * d) (x1:x.num = t) (x2:x.den = 1) (y1:y.num = b) (y2:y.den = 1) (z1:z.num = n) (z2:(z.den:Int) = d):z * y = x:=by
  have ex:x = Rat.divInt t 1:=by rw [← Rat.num_divInt_den x,x1,x2]; rfl
  have ey:y = Rat.divInt b 1:=by rw [← Rat.num_divInt_den y,y1,y2]; rfl
  have ez:z = Rat.divInt n d:=by rw [← Rat.num_divInt_den z,z1,z2]
  rw [ex,ey,ez,Rat.divInt_mul_divInt,Rat.divInt_eq_divInt_iff (by omega) (by decide)]
  rw [Int.mul_one,Int.mul_one]; exact e
theorem ZjJ {n d t b:Int} {z:Rat} (hd:0 < d) (hb:b ≠ 0) (e:n * b = t * d) (z1:z.num = n) (z2:(z.den:Int) = d):QN .q (b.natAbs:Int) t.natAbs z:=by
  have ez:z = Rat.divInt n d:=by rw [← Rat.num_divInt_den z,z1,z2]
  by_cases h:0 < b
  · refine ⟨t,?_,Nat.le_refl _⟩
    show z = Rat.divInt t (b.natAbs:Int)
    rw [ez,Rat.divInt_eq_divInt_iff (by omega) (by omega),show (b.natAbs:Int) = b by omega]
    exact e
  · refine ⟨-t,?_,by rw [Int.natAbs_neg]; exact Nat.le_refl _⟩
    show z = Rat.divInt (-t) (b.natAbs:Int)
    rw [ez,Rat.divInt_eq_divInt_iff (by omega) (by omega),show (b.natAbs:Int) = -b by omega,Int.mul_neg,Int.neg_mul,e]
section
variable {P:Program} {w:World} {K:PySem.W.Frag} {mg:Str → Option Value} {base:Heap} {CF CR cN:Addr}
theorem ZiT (kd:Kd K mg CF CR) (hF:HasMX P w K mg base CF "number" 3 ["self", "top", "bottom"] [] (ZbU cN)) (hR:HasMX P w K mg base CR "number" 3 ["self", "top", "bottom"] [] (Zby CR cN)):ZdB P w K mg base CF CR cN:=by
  intro κ H s hk
  cases κ with
  | q =>
    obtain ⟨dx,h⟩:=hk
    refine ⟨CF,dx,[],_,_,_,h,kd.clF,hF,rfl,rfl,fun H' t b x y Q E S hx hy bb kE k => ⟨s,t,b,rfl,Nat.le_trans bb (by decide),fun z => kE ?_,fun b0 r n d nr fc e l1 l2 => ?_⟩⟩
    · exact Rat.num_eq_zero.mp (by rw [hy.1]; exact z)
    obtain ⟨z,z1,z2⟩:=ZfJ fc
    refine k (fun q => b0 ?_) _ _ z (Zah nr _) ⟨r,rfl,?_⟩ (ZkZ fc.pos e hx.1 hx.2 hy.1 hy.2 z1 z2) (ZjJ fc.pos b0 e z1 z2)
    · have q:(y:Rat) = 0:=q
      have:=hy.1
      rw [q] at this
      exact this.symm
    · show upd H' r _ r = some (.tup [.int (Rat.num z),.int ((Rat.den z:Nat):Int)])
      rw [z1,z2]; exact Zaf
  | r p hp =>
    obtain ⟨dx,h⟩:=hk
    have h2:=hp.two
    refine ⟨CR,dx,_,_,_,_,h,kd.clR,hR,ZcE p (by decide),rfl,fun H' t b x y Q E S hx hy bb kE k => ⟨s,p,t,b,rfl,⟨dx,S _ _ h⟩,hp.pr,by have:=hp.lt; omega,hx.1,bb,fun z => kE ?_,fun nb H'' r S' r0 r1 rd => ?_⟩⟩
    · have e:(Fin.val y:Int) = b % p:=hy.2
      rw [Int.emod_eq_zero_of_dvd z] at e
      exact (show y = K0 (.r p hp) from Fin.ext (by rw [ZcA]; omega))
    have ny:y ≠ K0 (.r p hp):=fun q => nb (by
      have e:(Fin.val y:Int) = b % p:=hy.2
      rw [q,ZcA] at e
      exact Int.dvd_of_emod_eq_zero e.symm)
    refine k ny _ H'' (⟨r.toNat,by omega⟩:Fin p) S' ?_ ?_ trivial
    · show V.int r = V.int ((r.toNat:Nat):Int)
      rw [Int.toNat_of_nonneg r0]
    · refine Fin.ext ?_
      show Fin.val ((⟨r.toNat,by omega⟩:Fin p) * (y:Fin p)) = Fin.val x
      rw [Fin.val_mul]
      show r.toNat * (Fin.val y) % p = Fin.val x
      have ex:(Fin.val x:Int) = t % p:=hx.2
      have ey:(Fin.val y:Int) = b % p:=hy.2
      have e:((r.toNat * (Fin.val y) % p:Nat):Int) = ((Fin.val x:Nat):Int):=by
        rw [Int.natCast_emod,Int.natCast_mul,Int.toNat_of_nonneg r0,ex,ey,show r * (b % (p:Int)) % (p:Int) = r * b % (p:Int) by rw [Int.mul_emod,Int.emod_emod_of_dvd _ (Int.dvd_refl _),← Int.mul_emod]]
        exact Int.emod_eq_emod_iff_emod_sub_eq_zero.mpr (Int.emod_eq_zero_of_dvd rd)
      exact_mod_cast e
end
def IsB (κ:KX) (H:Hp) (v:V) (b:Bool):Prop:=match κ with
  | .q => FrB H v b
  | .r p _ => RsB (p:Int) v b
theorem IsB.det {κ:KX} {H:Hp} {v:V} {b c:Bool} (h:IsB κ H v b) (h':IsB κ H v c):b = c:=by
  cases κ with
  | q => exact FrB.det h h'
  | r p hp => exact RsB.det h h'
theorem NR.th {κ:KX} {H:Hp} {v:V} {x:κ.F} (h:NR κ H v x):Th H v ∧ IsB κ H v true:=by
  cases κ with
  | q =>
    obtain ⟨a,rfl,q⟩:=h
    have fc:=ZaU x
    refine ⟨.inr (.inr (.inr ⟨a,_,rfl,q,fun y hy => ?_⟩)),?_⟩
    · rcases List.mem_cons.mp hy with rfl | hy
      · exact .inl ⟨_,rfl⟩
      · rw [List.mem_singleton.mp hy]; exact .inl ⟨_,rfl⟩
    · have:=Zgr q
      rw [decide_eq_true (show 1 ≤ ((Rat.den x:Nat):Int) by have:=fc.pos; omega),decide_eq_true fc.cop] at this
      exact this
  | r p hp =>
    have e:v = .int x.val:=h
    subst e
    have xl:=x.isLt
    refine ⟨.inl (.inl ⟨_,rfl⟩),.inl ⟨_,rfl,?_⟩⟩
    rw [decide_eq_true (show (0:Int) ≤ (x.val:Int) by omega),decide_eq_true (show (x.val:Int) < (p:Int) by omega)]; rfl
def Zkg (P:Program) (w:World) (K:PySem.W.Frag) (mg:Str → Option Value) (base:Heap) (CF CR:Addr):Prop :=
  ∀ (κ:KX) (H:Hp) (s:Addr),KdX CF CR κ H s → ∃ C dx fs ps dvs sp,H s = some (.ins C dx fs) ∧ Cls K C ∧ HasM P w K mg base C "is_number" 2 ps dvs sp ∧ fs.lookup ("is_number" : Str) = none ∧ dvs = [] ∧
    ∀ (v:V) (Q:VK),Th H v → (∀ b,IsB κ H v b → Q (.bl b) H) → sp [.ref s,v] H Q E0
section
variable {P:Program} {w:World} {K:PySem.W.Frag} {mg:Str → Option Value} {base:Heap} {CF CR cN:Addr}
theorem Zk0 (kd:Kd K mg CF CR) (hF:HasM P w K mg base CF "is_number" 2 ["self", "thing"] [] (ZdA (FrA CF) fun H _ v b => FrB H v b)) (hR:HasM P w K mg base CR "is_number" 2 ["self", "thing"] [] (ZdA (fun H s => ∃ p,ReA CR p H s) fun H s v b => ∀ p,ReA CR p H s → RsB p v b)):Zkg P w K mg base CF CR:=by
  intro κ H s hk
  cases κ with
  | q =>
    obtain ⟨dx,h⟩:=hk
    exact ⟨CF,dx,[],_,_,_,h,kd.clF,hF,rfl,rfl,fun v Q th k => ⟨s,v,rfl,⟨dx,h⟩,th,k⟩⟩
  | r p hp =>
    obtain ⟨dx,h⟩:=hk
    exact ⟨CR,dx,fsR p,_,_,_,h,kd.clR,hR,ZcE p (by decide),rfl,fun v Q th k => ⟨s,v,rfl,⟨p,dx,h⟩,th,fun b hb => k b (hb p ⟨dx,h⟩)⟩⟩
end
section
variable {κ:KX}
theorem ZbR {X:List κ.F} {r:Nat} (h:∀ j,r ≤ j → X.getD j 0 = 0):sr (X.take r) = sr X:=ZlM fun k => by
  by_cases q:k < r
  · rw [List.getD_eq_getElem?_getD,List.getElem?_take,if_pos q,List.getD_eq_getElem?_getD]
  · rw [h k (by omega)]
    exact Zax (by rw [List.length_take]; omega)
end
theorem ZgF {ys:List V} {m:Nat} {v:V} (hv:ys[m]? = some v) (l:ys.length = m + 1):atI ys (-1) = some v:=by
  unfold atI
  rw [Zjz (by omega)]
  show ys[ys.length - 1]? = _
  rw [show ys.length - 1 = m by omega]; exact hv
theorem Th.tyL {K:PySem.W.Frag} {H:Hp} {v:V} (h:Th H v):∃ (T:String) (b:Bool),TyX K H v (.type T) ∧ PySem.W.kitOne K (.type T) (.type "list") = some b ∧ (b = true → ∃ a xs,v = .ref a ∧ H a = some (.lst xs)):=by
  rcases h with (⟨i,rfl⟩ | ⟨b,rfl⟩ | rfl | ⟨s,rfl⟩) | ⟨a,xs,rfl,h⟩ | ⟨a,rfl,h⟩ | ⟨a,xs,rfl,h,r⟩
  · exact ⟨"int", false,.of (.int i),Zbx K (by decide +kernel) (by decide +kernel) (by decide +kernel),fun z => (nomatch z)⟩
  · exact ⟨"bool", false,.of (.bl b),Zbx K (by decide +kernel) (by decide +kernel) (by decide +kernel),fun z => (nomatch z)⟩
  · exact ⟨"NoneType", false,.of .non,Zbx K (by decide +kernel) (by decide +kernel) (by decide +kernel),fun z => (nomatch z)⟩
  · exact ⟨"str", false,.of (.str s),Zbx K (by decide +kernel) (by decide +kernel) (by decide +kernel),fun z => (nomatch z)⟩
  · exact ⟨"list", true,.of (.lst h),Za7 K _,fun _ => ⟨a,xs,rfl,h⟩⟩
  · exact ⟨"dict", false,.of (.dK h),Zbx K (by decide +kernel) (by decide +kernel) (by decide +kernel),fun z => (nomatch z)⟩
  · exact ⟨"tuple", false,.of (.tup h),Zbx K (by decide +kernel) (by decide +kernel) (by decide +kernel),fun z => (nomatch z)⟩
def Zbg (CP CF CR cN:Addr):Sp:=fun vs H Q Ee => ∃ (κ:KX) (s:Addr) (t b:Int) (x y:κ.F),vs = [.ref s,.int t,.int b] ∧ PoA CP CF CR κ H s ∧ NumV κ t x ∧ NumV κ b y ∧ b.natAbs ≤ 10 ^ 100 ∧ (y = 0 → Ee (.ref cN) none H) ∧
  (y ≠ 0 → ∀ (H':Hp) (R:Addr) (zs:List V) (T:List κ.F) (z:κ.F),Same H H' → H R = none → PolL κ H' R zs T → Trm T → sr T = cn z → T.length ≤ 1 → z * y = x → QN κ (b.natAbs:Int) t.natAbs z → Q (.ref R) H')
def ZdC (CP CF CR cN:Addr):Sp:=fun vs H Q Ee => ∃ (κ:KX) (s ga:Addr) (ys:List V) (G:List κ.F),vs = [.ref s,.ref ga] ∧ PoA CP CF CR κ H s ∧ PolL κ H ga ys G ∧ (G.length ≠ 1 → Ee (.ref cN) none H) ∧
  (∀ g,G = [g] → g ≠ 0 ∧ ∀ (H':Hp) (R:Addr) (v:V),Same H H' → H R = none → PolL κ H' R [v] [Fd.inv g] → Q (.ref R) H')
def ZdD (CP CF CR cN:Addr):Sp:=fun vs H Q Ee => ∃ (κ:KX) (s fa ga:Addr) (xs ys:List V) (F G:List κ.F),vs = [.ref s,.ref fa,.ref ga] ∧ PoA CP CF CR κ H s ∧ PolL κ H fa xs F ∧ PolL κ H ga ys G ∧ (G.length ≠ 1 → ∀ H',Same H H' → Ee (.ref cN) none H') ∧
  (∀ g,G = [g] → g ≠ 0 ∧ F.length ≤ 90 ∧ ∃ (D E M N:Nat),(∀ x ∈ F,QN κ (D:Int) M x) ∧ QN κ (E:Int) N (Fd.inv g) ∧ 0 < D ∧ D ≤ 10 ^ 200 ∧ 0 < E ∧ E ≤ 10 ^ 200 ∧ M ≤ 10 ^ 500 ∧ N ≤ 10 ^ 500 ∧
    ∀ (H':Hp) (R:Addr) (zs:List V) (T:List κ.F),Same H H' → H R = none → PolL κ H' R zs T → Trm T → sr T = sr F * cn (Fd.inv g) → T.length ≤ F.length → Q (.ref R) H')
def Zdm (CP CF CR:Addr):Sp:=fun vs H Q _ => ∃ (κ:KX) (s fa:Addr) (xs:List V) (F:List κ.F),vs = [.ref s,.ref fa] ∧ PolL κ H fa xs F ∧ Q (.bl (decide (F.length = 0))) H
def Zc6 (K:PySem.W.Frag) (CP CF CR:Addr):Sp:=fun vs H Q _ => ∃ (κ:KX) (s:Addr) (v:V),vs = [.ref s,v] ∧ PoA CP CF CR κ H s ∧
  ((∃ a xs,∃ f:List κ.F,v = .ref a ∧ PolL κ H a xs f ∧ f.length ≤ 100 ∧ ∀ H' b,Same H H' → (b = true ↔ Trm f) → Q (.bl b) H') ∨
   (∃ a xs,v = .ref a ∧ H a = some (.lst xs) ∧ xs.length ≤ 100 ∧ (∀ x ∈ xs,Th H x) ∧ (∃ x ∈ xs,IsB κ H x false) ∧ ∀ H',Same H H' → Q (.bl false) H') ∨
   (∃ T:String,TyX K H v (.type T) ∧ PySem.W.kitOne K (.type T) (.type "list") = some false ∧ Q (.bl false) H))
end My
namespace My
open PySem L2 PyProof.Rows
section
variable {P:Program} {w:World} {K:PySem.W.Frag} {mg:Str → Option Value} {base:Heap} {CP CF CR cN:Addr}
theorem Zed:FnScope ["self", "top", "bottom"] ["self", "top", "bottom"] (Zag ZaZ):=⟨rfl,rfl,rfl,by decide +kernel,rfl,by decide +kernel,by decide +kernel⟩
theorem Zee {f Tt:Addr} {fd:FuncData} {items:Array Value} (F:FunD K "number" "Polys.number" ZaZ f fd Tt items) (pc:Pc K mg CP) (mn:ZdB P w K mg base CF CR cN) (h_trimmed:Has P w K mg base "trimmed" 4 ["kind", "numbers"] (Zbz CF CR)):FnOk P w K mg base (CXx P w) 5 f fd ["self", "top", "bottom"] (Zbg CP CF CR cN):=by
  refine F.okx Zed (fun vs H Q E h => ?_) (fun cdv A outer s H vs Q E hr h => ?_)
  · obtain ⟨_,_,_,_,_,_,rfl,_⟩:=h
    rfl
  obtain ⟨κ,po,t,b,x,y,rfl,⟨dxp,sk,hpo,hk⟩,nx,ny,bb,kE,k⟩:=h
  refine ⟨_,(Zae (Zai (Zam h_trimmed hr (by rfl) (Zaa (Zbj (pv 0) rfl) (Zaa (ZaJ (Zaa (ZaL (Zbj (pv 0) rfl) ZkD hr (Zaa (pv 1) (Zaa (pv 2) Zab))) Zab)) Zab))))),?_⟩
  obtain ⟨C,dx,fs,ps,dvs,sp,c1,c2,c3,c4,rfl,c5⟩:=mn κ H sk hk
  refine ⟨_,rfl,po,CP,dxp,_,_,rfl,hpo,pc.cl,pc.nU,rfl,_,rfl,po,CP,dxp,_,_,rfl,hpo,pc.cl,pc.nU,rfl,sk,C,dx,fs,ps,_,sp,rfl,c1,c2,c3.mono (by decide),c4,_,rfl,_,rfl,c5 H t b x y _ _ (Same.refl _) nx ny bb kE fun y0 v H1 z S1 nz ez qz => ⟨(by show 1 ≤ sizeLine; decide),fun l nl => ?_⟩⟩
  have Sl:=Zah nl (.lst [v])
  have al:AllG (NR κ (upd H1 l (.lst [v]))) [v] [z]:=.one (nz.same Sl)
  refine ⟨κ,sk,l,[v],[z],rfl,hk.same (S1.trans Sl),Zaf,al,fun H2 D r S2 nD hD lr r0 r1 => ?_⟩
  exact k y0 H2 D _ ([z].take r) z (S1.trans (Sl.trans S2)) ((S1.trans Sl).free nD) ⟨hD,Zbw (al.mono fun _ _ n => n.same S2) r⟩ (Za0 lr r1) (ZbR r0) (by rw [List.length_take]; show min r 1 ≤ 1; omega) ez qz
theorem Zhz {tk:Tok} (h:HereD K CP "number" "Polys.number" ZaZ #[.int 1 tk]) (pc:Pc K mg CP) (mn:ZdB P w K mg base CF CR cN) (h_trimmed:Has P w K mg base "trimmed" 4 ["kind", "numbers"] (Zbz CF CR)):HasMX P w K mg base CP "number" 5 ["self", "top", "bottom"] [] (Zbg CP CF CR cN) :=
  h.hasMX (ds:=[]) .nil (fun f fd T F => F.binds fun _ _ _ _ _ _ us hl => by obtain ⟨_,_,_,rfl⟩:=Zdv (show us.length = 3 by simpa using hl); exact ⟨_,rfl,rfl⟩) fun f fd T F => Zee F pc mn h_trimmed
theorem Zgs {tk:Tok} (h:HereD K CP "number" "Polys.number" ZaZ #[.int 1 tk]) (pc:Pc K mg CP) (mn:ZdB P w K mg base CF CR cN) (h_trimmed:Has P w K mg base "trimmed" 4 ["kind", "numbers"] (Zbz CF CR)):HasMX P w K mg base CP "number" 5 ["self", "top", "bottom"] [.int 1] (Zbg CP CF CR cN) :=
  h.hasMX (ds:=[.int 1 tk]) (.cons ⟨_,rfl⟩ .nil) (fun f fd T F => F.binds fun _ _ _ _ _ _ us hl => by obtain ⟨_,_,rfl⟩:=Zdg (show us.length = 2 by simpa using hl); exact ⟨_,rfl,rfl⟩) fun f fd T F => Zee F pc mn h_trimmed
theorem Ze9:FnScope ["self", "one"] ["self", "one"] (Zag Zcn):=⟨rfl,rfl,rfl,by decide +kernel,rfl,by decide +kernel,by decide +kernel⟩
theorem ZjK (h:HereM K CP "back" "Polys.back" Zcn) (T:Nm mg) (pc:Pc K mg CP) (c_NoNumber:ExcC K mg "NoNumber" cN) (mb:ZgW P w K mg base CF CR):HasMX P w K mg base CP "back" 5 ["self", "one"] [] (ZdC CP CF CR cN):=by
  refine h.hasMX (fun f fd F => F.binds fun _ _ _ _ _ _ us hl => by obtain ⟨_,_,rfl⟩:=Zdg hl; exact rfl) fun f fd F => F.okx Ze9 (fun vs H Q E h => ?_) (fun cdv A outer s H vs Q E hr h => ?_)
  · obtain ⟨_,_,_,_,_,rfl,_⟩:=h
    rfl
  obtain ⟨κ,po,ga,ys,G,rfl,⟨dxp,sk,hpo,hk⟩,pG,kE,k⟩:=h
  refine ⟨_,(Zad (ZaC (Zap ZdG (Zak Zal (by rfl) T.len boot_len (Zaa (pv 1) Zab)) Zac (Zan _)) (Zae (ZcW c_NoNumber ZfB rfl (by rfl) (Zaa ZdF Zab))) Zao)
    (Zae (Zai (ZaJ (Zaa (ZaL (Zbj (pv 0) rfl) ZeQ hr (Zaa (Zar Zaw (pv 1) Zac (fun _ _ => rfl)) Zab)) Zab))))),?_⟩
  have ly:=pG.al.1
  refine ⟨_,rfl,ga,_,rfl,.inl (SqL.of pG.l),rfl,_,rfl,?_⟩
  refine Zdo (fun z => ⟨(by show 1 ≤ 1000; decide),kE fun q => z (by omega)⟩) (fun z => ?_)
  obtain ⟨g,rfl⟩:∃ g,G = [g]:=by
    match G,(show G.length = 1 by omega) with
    | [g],_ => exact ⟨g,rfl⟩
  obtain ⟨g0,k⟩:=k g rfl
  obtain ⟨v,hv,nv⟩:=Zbr pG.al (i:=0) (by show 0 < 1; decide)
  obtain ⟨C,dx,fs,ps,dvs,sp,c1,c2,c3,c4,rfl,c5⟩:=mb κ H sk hk
  refine ⟨_,rfl,po,CP,dxp,_,_,rfl,hpo,pc.cl,pc.nU,rfl,sk,C,dx,fs,ps,_,sp,rfl,c1,c2,c3.mono (by decide),c4,_,rfl,ga,_,0,_,rfl,rfl,SqL.of pG.l,Za4 (j:=0) hv,c5 H v g _ _ (Same.refl _) nv g0 fun u H1 S1 nu => ⟨(by show 1 ≤ sizeLine; decide),fun R nR => ?_⟩⟩
  have SR:=Zah nR (.lst [u])
  exact k _ R u (S1.trans SR) (S1.free nR) ⟨Zaf,.one (nu.same SR)⟩
theorem Zfa:FnScope ["self", "one", "other"] ["self", "one", "other"] (Zag ZcJ):=⟨rfl,rfl,rfl,by decide +kernel,rfl,by decide +kernel,by decide +kernel⟩
theorem ZjL (h:HereM K CP "over" "Kind.over" ZcJ) (pc:Pc K mg CP) (hT:HasM P w K mg base CP "times" 5 ["self", "one", "other"] [] (Zeb CP CF CR)) (hB:HasMX P w K mg base CP "back" 5 ["self", "one"] [] (ZdC CP CF CR cN)):HasMX P w K mg base CP "over" 6 ["self", "one", "other"] [] (ZdD CP CF CR cN):=by
  refine h.hasMX (fun f fd F => F.binds fun _ _ _ _ _ _ us hl => by obtain ⟨_,_,_,rfl⟩:=Zdv hl; exact rfl) fun f fd F => F.okx Zfa (fun vs H Q E h => ?_) (fun cdv A outer s H vs Q E hr h => ?_)
  · obtain ⟨_,_,_,_,_,_,_,_,rfl,_⟩:=h
    rfl
  obtain ⟨κ,po,fa,ga,xs,ys,F,G,rfl,⟨dxp,sk,hpo,hk⟩,pF,pG,kE,k⟩:=h
  refine ⟨_,(Zae (Zai (ZaA (pv 0) hr (Zaa (pv 1) (Zaa (ZaL (pv 0) ZkD hr (Zaa (pv 2) Zab)) Zab))))),?_⟩
  refine ⟨_,rfl,po,CP,dxp,_,_,_,_,rfl,hpo,pc.cl,hT,rfl,_,rfl,_,rfl,po,CP,dxp,_,_,_,_,rfl,hpo,pc.cl,hB,rfl,_,rfl,κ,po,ga,ys,G,rfl,⟨dxp,sk,hpo,hk⟩,pG,(fun z => kE z H (Same.refl _)),fun g e => ?_⟩
  obtain ⟨g0,l90,D,E',M,N,qF,qg,d0,dB,e0,eB,mB,nB,k⟩:=k g e
  refine ⟨g0,fun H1 R v S1 nR pR => ?_⟩
  refine ⟨κ,po,fa,R,xs,[v],F,[Fd.inv g],D,E',M,N,rfl,⟨dxp,sk,S1 _ _ hpo,hk.same S1⟩,pF.same S1,pR,l90,(by show 1 ≤ 90; decide),qF,(fun x hx => by rw [List.mem_singleton.mp hx]; exact qg),d0,dB,e0,eB,mB,nB,fun H2 R2 zs T S2 nR2 pT tT eT lT => ?_⟩
  exact k H2 R2 zs T (S1.trans S2) (S1.free nR2) pT tT eT (Nat.le_trans lT (by show F.length + 1 - 1 ≤ F.length; omega))
theorem Zc7:FnScope ["self", "one"] ["self", "one"] (Zag Zbe):=⟨rfl,rfl,rfl,by decide +kernel,rfl,by decide +kernel,by decide +kernel⟩
theorem ZhA (h:HereM K CP "is_nought" "Polys.is_nought" Zbe) (T:Nm mg):HasM P w K mg base CP "is_nought" 1 ["self", "one"] [] (Zdm CP CF CR):=by
  refine h.hasM (fun f fd F => F.binds fun _ _ _ _ _ _ us hl => by obtain ⟨_,_,rfl⟩:=Zdg hl; exact rfl) fun f fd F => F.ok Zc7 (fun vs H Q E h => ?_) (fun cdv A outer s H vs Q E hr h => ?_)
  · obtain ⟨_,_,_,_,_,rfl,_⟩:=h
    rfl
  obtain ⟨κ,po,fa,xs,F,rfl,pF,k⟩:=h
  refine ⟨_,(Zae (Zai (ZaR Zbi (Zak Zal (by rfl) T.len boot_len (Zaa (pv 1) Zab)) Zac (Zan _)))),?_⟩
  refine ⟨_,rfl,fa,_,rfl,.inl (SqL.of pF.l),rfl,?_⟩
  have e:decide (V.int (xs.length:Int) = V.int 0) = decide (F.length = 0):=by
    have:=pF.al.1
    rw [decide_eq_decide]
    exact ⟨fun z => by have:=V.int.inj z; omega,fun z => by rw [this,z]; rfl⟩
  rw [← e] at k
  exact k
theorem Zc8:FnScope ["self", "thing"] ["self", "thing"] (Zag Zbf):=⟨rfl,rfl,rfl,by decide +kernel,rfl,by decide +kernel,by decide +kernel⟩
theorem ZiU (h:HereM K CP "is_number" "Polys.is_number" Zbf) (T:Nm mg) (Ta:mg "all" = none) (pc:Pc K mg CP) (mi:Zkg P w K mg base CF CR) (mz:Ziy P w K mg base CF CR):HasM P w K mg base CP "is_number" 3 ["self", "thing"] [] (Zc6 K CP CF CR):=by
  refine h.hasM (fun f fd F => F.binds fun _ _ _ _ _ _ us hl => by obtain ⟨_,_,rfl⟩:=Zdg hl; exact rfl) fun f fd F => F.ok Zc8 (fun vs H Q E h => ?_) (fun cdv A outer s H vs Q E hr h => ?_)
  · obtain ⟨_,_,_,rfl,_⟩:=h
    rfl
  obtain ⟨κ,po,v,rfl,⟨dxp,sk,hpo,hk⟩,cs⟩:=h
  refine ⟨_,(Zad (ZaC (ZbW (ZaN (ZaD (Zak Zau (by rfl) T.isinstance boot_isinstance (Zaa (pv 1) (Zaa (Zdu (by rfl) T.list boot_list) Zab))))) (ZbF (ZaN (ZaD (Zak (Zjq rfl) (by rfl) Ta PyProof.Rows.Boot.all (Zaa (Zdf ["each"] [(0, "self")] rfl (ZcH (pv 1)) (by exact fun _ _ _ _ => (ZaH (i:=0) (show (["each", "self"]:List Str).Nodup by decide +kernel) rfl (Or.inl rfl))) (by exact fun _ _ _ _ => (ZdO ⟨rfl,rfl,rfl,rfl,rfl⟩ (Zea K rfl (pv 1) rfl) hr (Zaa (pv 0) Zab))) ⟨⟨rfl,rfl,Or.inl rfl⟩,trivial⟩) Zab)))))).pt (Zae (Zai ZaX)) Zao)
    (Zae (Zai (Zlb (ZaR Zbi (Zak Zal (by rfl) T.len boot_len (Zaa (pv 1) Zab)) Zac (Zan _)) (ZbG (Zgy (ZaA (Zbj (pv 0) rfl) hr (Zaa (Zar Zaw (pv 1) (ZeH ZcR Zac) (fun _ _ => rfl)) Zab)))))))),?_⟩
  rcases cs with ⟨a,xs,f,rfl,pF,l100,k⟩ | ⟨a,xs,rfl,ha,l100,th,⟨x0,mx0,bx0⟩,k⟩ | ⟨Ty,ty,k1,k⟩
  · have lx:=pF.al.1
    refine ⟨_,rfl,_,_,_,_,rfl,.of (.lst pF.l),.ty (Za7 K _),_,rfl,ZbE ?_⟩
    refine ⟨_,rfl,a,rfl,⟨_,SqL.of pF.l⟩,?_⟩
    refine ZdL (K:=K) (a:=a) (xs:=xs) (fun i ys H2 => H2 = H ∧ ys = (List.replicate i true).map V.bl) (by omega) ⟨rfl,rfl⟩ (fun i ys H2 _ q => by rw [q.1]; exact SqL.of pF.l) ?_ ?_
    · rintro i x ys H2 hx hl' ⟨rfl,rfl⟩
      obtain ⟨z,hz,nz⟩:=pF.al.get hx
      obtain ⟨C,dx,fs,ps,dvs,sp,c1,c2,c3,c4,rfl,c5⟩:=mi κ H2 sk hk
      refine ⟨_,rfl,po,CP,dxp,_,_,rfl,hpo,pc.cl,pc.nU,rfl,sk,C,dx,fs,ps,_,sp,rfl,c1,c2,c3,c4,_,rfl,c5 x _ nz.th.1 fun b hb => ⟨rfl,?_⟩⟩
      rw [IsB.det hb nz.th.2,List.replicate_succ',List.map_append]; rfl
    · rintro ys H2 hl' ⟨rfl,rfl⟩ D nD
      have SD:=Zah nD (.lst ((List.replicate xs.length true).map V.bl))
      refine ⟨D,List.replicate xs.length true,rfl,SqL.of Zaf,_,rfl,?_⟩
      rw [show (List.replicate xs.length true).all id = true by rw [List.all_eq_true]; intro b hb; rw [(List.mem_replicate.mp hb).2]; rfl]
      refine ZbE ?_
      generalize upd H2 D (.lst ((List.replicate xs.length true).map V.bl)) = H3 at *
      have pF3:=pF.same SD
      refine ⟨_,rfl,a,_,rfl,.inl (SqL.of pF3.l),rfl,_,rfl,?_⟩
      by_cases f0:f.length = 0
      · exact Zd5 (show (xs.length:Int) = 0 by omega) (k H3 true SD ⟨fun _ => .inl f0,fun _ => rfl⟩)
      · refine ZfI (show (xs.length:Int) ≠ 0 by omega) ?_
        obtain ⟨u,hu,nu⟩:=Zbr pF3.al (i:=f.length - 1) (by omega)
        obtain ⟨C,dx,fs,ps,dvs,sp,c1,c2,c3,c4,rfl,c5⟩:=mz κ H3 sk (hk.same SD)
        refine ⟨_,rfl,po,CP,dxp,_,_,rfl,SD _ _ hpo,pc.cl,pc.nU,rfl,sk,C,dx,fs,ps,_,sp,rfl,c1,c2,c3,c4,_,rfl,_,rfl,a,_,_,u,rfl,rfl,SqL.of pF3.l,ZgF (m:=f.length - 1) hu (by omega),c5 u _ _ nu fun b hb => ⟨_,rfl,?_⟩⟩
        refine k H3 (!b) SD ⟨fun z => .inr fun y => ?_,fun z => ?_⟩
        · rw [hb.mpr y] at z; cases z
        · rcases z with z | z
          · exact absurd z f0
          · cases b with
            | true => exact absurd (hb.mp rfl) z
            | false => rfl
  · refine ⟨_,rfl,_,_,_,_,rfl,.of (.lst ha),.ty (Za7 K _),_,rfl,ZbE ?_⟩
    refine ⟨_,rfl,a,rfl,⟨_,SqL.of ha⟩,?_⟩
    refine ZdL (K:=K) (a:=a) (xs:=xs) (fun i ys H2 => H2 = H ∧ ∃ bs:List Bool,ys = bs.map V.bl ∧ bs.length = i ∧ ∀ j x,j < i → xs[j]? = some x → ∃ b,bs[j]? = some b ∧ IsB κ H x b) (by omega) ⟨rfl,[],rfl,rfl,fun j x h => by omega⟩ (fun i ys H2 _ q => by rw [q.1]; exact SqL.of ha) ?_ ?_
    · rintro i x ys H2 hx hl' ⟨rfl,bs,rfl,lb,hb⟩
      obtain ⟨C,dx,fs,ps,dvs,sp,c1,c2,c3,c4,rfl,c5⟩:=mi κ H2 sk hk
      refine ⟨_,rfl,po,CP,dxp,_,_,rfl,hpo,pc.cl,pc.nU,rfl,sk,C,dx,fs,ps,_,sp,rfl,c1,c2,c3,c4,_,rfl,c5 x _ (th x (List.mem_of_getElem? hx)) fun b hb' => ⟨rfl,bs ++ [b],by rw [List.map_append]; rfl,by rw [List.length_append,lb]; rfl,fun j y hj hy => ?_⟩⟩
      by_cases e:j = i
      · subst e
        rw [hx] at hy
        cases hy
        exact ⟨b,by rw [List.getElem?_append_right (by omega),lb,Nat.sub_self]; rfl,hb'⟩
      · obtain ⟨b2,e2,h2⟩:=hb j y (by omega) hy
        exact ⟨b2,by rw [List.getElem?_append_left (by omega)]; exact e2,h2⟩
    · rintro ys H2 hl' ⟨rfl,bs,rfl,lb,hb⟩ D nD
      have SD:=Zah nD (.lst (bs.map V.bl))
      refine ⟨D,bs,rfl,SqL.of Zaf,_,rfl,?_⟩
      obtain ⟨j,hj,e⟩:=List.getElem_of_mem mx0
      obtain ⟨b,eb,ib⟩:=hb j x0 hj (by rw [List.getElem?_eq_getElem hj,e])
      have b0:=IsB.det ib bx0
      subst b0
      rw [show bs.all id = false by rw [List.all_eq_false]; exact ⟨false,List.mem_of_getElem? eb,by decide⟩]
      exact Zei (k _ SD)
  · exact ⟨_,rfl,_,_,_,_,rfl,ty,.ty k1,_,rfl,Zei k⟩
end
end My
namespace My
open PySem L2 PyProof.Rows
section
variable {P:Program} {w:World} {K:PySem.W.Frag} {mg:Str → Option Value} {base:Heap}
theorem sc_l_fraction:FnScope ["_law_top", "_law_bottom", "_law_by"] ["_law_top", "_law_bottom"] (Zag Zcq):=⟨rfl,rfl,rfl,by decide +kernel,rfl,by decide +kernel,by decide +kernel⟩
theorem ZiV (h:Here K mg "_law_fraction" Zcq) (h_l_divisor:Has P w K mg base "_law_divisor" 1 ["_law_one", "_law_other"] ZaG):Has P w K mg base "_law_fraction" 2 ["_law_top", "_law_bottom"] Ze4:=by
  refine h.has (fun f fd F => F.binds fun _ _ _ _ _ _ us hl => by obtain ⟨_,_,rfl⟩:=Zdg hl; exact rfl) fun f fd F => F.ok sc_l_fraction (fun vs H Q E h => ?_) (fun cdv A outer s H vs Q E hr h => ?_)
  · obtain ⟨_,_,rfl,_⟩:=h
    rfl
  obtain ⟨t,b,rfl,hb,fb,k⟩:=h
  have nd:=sc_l_fraction.nd
  refine ⟨_,(Zad (Zas (i:=2) nd rfl (Or.inl rfl) (Zam h_l_divisor hr (by rfl) (Zaa (pv 0) (Zaa (pv 1) Zab))))
    (Zae (Zai (Zbs (Zaa (Zaj ZgT (pv 0) (pv 2)) (Zaa (Zaj ZgT (pv 1) (pv 2)) Zab)))))),?_⟩
  refine ⟨_,rfl,_,rfl,t,b,rfl,?_⟩
  have hg:=M3.gcd_ne (a:=t) (b:=b) (by omega)
  have gl:Int.gcd t b ≤ b.natAbs:=Nat.le_of_dvd (by omega) (Int.natAbs_dvd_natAbs.mpr (Int.gcd_dvd_right t b))
  have hg1:(Int.gcd t b:Int) ≠ 0 ∧ Bits 8000 (Int.gcd t b:Int):=⟨by omega,fb.le (by rw [Int.natAbs_natCast]; exact gl)⟩
  obtain ⟨e1,e2⟩:=Znc (t:=t) hb
  refine ⟨_,rfl,_,rfl,_,_,rfl,rfl,hg1,_,rfl,_,rfl,_,_,rfl,rfl,hg1,(by show 2 ≤ sizeLine; decide),fun r hr' => ?_⟩
  have:=k r hr'
  rw [← e1,← e2] at this
  exact this
end
section
variable {P:Program} {w:World} {K:PySem.W.Frag} {mg:Str → Option Value} {base:Heap}
theorem sc_l_prime:FnScope ["_law_number_here"] ["_law_number_here"] (Zag ZdS):=⟨rfl,rfl,rfl,by decide +kernel,rfl,by decide +kernel,by decide +kernel⟩
theorem Zgt (h:Here K mg "_law_prime" ZdS) (h_l_is_prime:Has P w K mg base "_law_is_prime" 1 ["_law_number_here"] Zdz):Has P w K mg base "_law_prime" 2 ["_law_number_here"] Zd8:=by
  refine h.has (fun f fd F => F.binds fun _ _ _ _ _ _ us hl => by obtain ⟨_,rfl⟩:=Zjl hl; exact rfl) fun f fd F => F.ok sc_l_prime (fun vs H Q E h => ?_) (fun cdv A outer s H vs Q E hr h => ?_)
  · obtain ⟨_,rfl,_⟩:=h
    rfl
  obtain ⟨n,rfl,n2,n9,k⟩:=h
  have nd:=sc_l_prime.nd
  refine ⟨_,(Zad (ZbH PassesOwn.never (ZaN (ZaD (Zam h_l_is_prime hr (by rfl) (Zaa (pv 0) Zab)))) (Zae (Zas (i:=0) nd rfl (Or.inl rfl) (Zaj ZaP (pv 0) Zac))))
    (Zae (Zai (pv 0)))),?_⟩
  refine ⟨fun mm σ H' => ∃ t:Int,mm = (999983 - t).toNat ∧ σ = [some (.int t)] ∧ H' = H ∧ 2 ≤ t ∧ t ≤ 999983,⟨_,n,rfl,rfl,rfl,by omega,by omega⟩,?_⟩
  rintro mm σ H' ⟨t,rfl,rfl,rfl,h2,ht⟩
  refine ⟨_,rfl,t,rfl,by omega,fun hp => ⟨_,rfl,?_⟩,fun hp => ⟨_,rfl,?_⟩⟩
  · refine ZbE ?_
    exact ⟨_,rfl,k t (.inr ⟨hp,by omega⟩)⟩
  · refine Zei ?_
    refine ⟨_,fun _ _ h => h,?_⟩
    have hne:t ≠ 999983:=fun z => hp (by rw [z]; exact M2.prm_big)
    refine ⟨_,rfl,_,_,rfl,rfl,?_⟩
    exact ⟨_,by omega,t + 1,rfl,rfl,rfl,by omega,by omega⟩
theorem Zfb:FnScope ["_law_cell"] ["_law_cell"] (Zag Zcp):=⟨rfl,rfl,rfl,by decide +kernel,rfl,by decide +kernel,by decide +kernel⟩
theorem Zfc (h:Here K mg "_law_prime_by" Zcp) (h_l_prime:Has P w K mg base "_law_prime" 2 ["_law_number_here"] Zd8):Has P w K mg base "_law_prime_by" 3 ["_law_cell"] Zc2:=by
  refine h.has (fun f fd F => F.binds fun _ _ _ _ _ _ us hl => by obtain ⟨_,rfl⟩:=Zjl hl; exact rfl) fun f fd F => F.ok Zfb (fun vs H Q E h => ?_) (fun cdv A outer s H vs Q E hr h => ?_)
  · obtain ⟨_,rfl,_⟩:=h
    rfl
  obtain ⟨c,rfl,k⟩:=h
  refine ⟨_,(Zad (ZaC (Zap Zbi (Zaj Za3 (pv 0) Zac) Zac (Zan _)) (Zae (Zai Zac)) Zao)
    (Zad (ZaC (Zap Zbi (Zaj Za3 (pv 0) Zac) Zac (Zan _)) (Zae (Zai (Zar Zaw (ZaJ (Zaa Zac (Zaa Zac (Zaa Zac (Zaa Zac (Zaa Zac (Zaa Zac Zab))))))) (Zaj Za3 (Zaj ZbN (pv 0) Zac) Zac) (fun _ _ => rfl)))) Zao)
    (Zae (Zai (Zam h_l_prime hr (by rfl) (Zaa (Zaj ZaP Zac (Zaj Za3 (Zaj ZbS (Zaj ZbN (pv 0) Zac) Zac) Zac)) Zab)))))),?_⟩
  refine ⟨_,rfl,_,_,rfl,rfl,(by show (0:Int) < _; decide),rfl,_,rfl,?_⟩
  refine ZbD (fun _ => k H 0 (Same.refl H) (.inl rfl)) (fun _ => ?_)
  refine ⟨_,rfl,_,_,rfl,rfl,(by show (0:Int) < _; decide),rfl,_,rfl,?_⟩
  refine ZbD (fun _ => ?_) (fun _ => ?_)
  · obtain ⟨m,am,pm⟩:=Zmn c
    refine ⟨(by show 6 ≤ sizeLine; decide),fun q hq => ?_⟩
    refine ⟨_,rfl,_,_,rfl,rfl,⟨by decide,by decide⟩,_,_,rfl,rfl,(by show (0:Int) < _; decide),_,_,_,_,rfl,rfl,SqL.of Zaf,am,?_⟩
    exact k _ m (Zah hq _) pm
  · refine ⟨_,rfl,_,_,rfl,rfl,⟨by decide,by decide⟩,_,_,rfl,rfl,.inr ⟨by decide,by decide⟩,_,_,rfl,rfl,(by show (0:Int) < _; decide),_,_,rfl,rfl,_,rfl,?_,?_,fun p pp => k H p (Same.refl H) pp⟩
    · show (2:Int) ≤ 2 + c / 3 * 48271 % 999982
      omega
    · show 2 + c / 3 * 48271 % 999982 ≤ (999983:Int)
      omega
theorem ZiW:FnScope ["_law_prime_here", "_law_number_here"] ["_law_prime_here", "_law_number_here"] (Zag ZeT):=⟨rfl,rfl,rfl,by decide +kernel,rfl,by decide +kernel,by decide +kernel⟩
theorem ZiX (h:Here K mg "_law_make" ZeT):Has P w K mg base "_law_make" 1 ["_law_prime_here", "_law_number_here"] Za2:=by
  refine h.has (fun f fd F => F.binds fun _ _ _ _ _ _ us hl => by obtain ⟨_,_,rfl⟩:=Zdg hl; exact rfl) fun f fd F => F.ok ZiW (fun vs H Q E h => ?_) (fun cdv A outer s H vs Q E hr h => ?_)
  · obtain ⟨_,_,_,rfl,_⟩:=h
    rfl
  obtain ⟨κ,t,x,rfl,nx,k⟩:=h
  refine ⟨_,(Zad (ZaC (Zap Zbi (pv 0) Zac (Zan _)) (Zae (Zai (Zbs (Zaa (pv 1) (Zaa Zac Zab))))) Zao)
    (Zae (Zai (Zaj ZaQ (pv 1) (pv 0))))),?_⟩
  refine ⟨_,rfl,rfl,_,rfl,?_⟩
  cases κ with
  | r p hp =>
    have h2:=hp.two
    refine ZfI (show (KX.r p hp).P ≠ 0 by have:0 < (KX.r p hp).P:=Zgg; omega) ⟨_,rfl,_,rfl,_,_,rfl,rfl,(show (p:Int) ≠ 0 by omega),k H _ (Same.refl H) ?_⟩
    show V.int (t.fmod p) = V.int x.val
    have e:(Fin.val x:Int) = t % p:=nx.2
    rw [Int.fmod_eq_emod_of_nonneg _ (by omega),e]
  | q =>
    refine Zd5 (show KX.q.P = 0 from rfl) ⟨_,rfl,(by show 2 ≤ sizeLine; decide),fun r nr => ?_⟩
    refine k _ _ (Zah nr _) ⟨r,rfl,?_⟩
    have e1:Rat.num x = t:=nx.1
    have e2:Rat.den x = 1:=nx.2
    rw [Zaf,e1,e2]; rfl
theorem Zem:FnScope ["_law_prime_here", "_law_found"] ["_law_prime_here", "_law_found"] (Zag Zb6):=⟨rfl,rfl,rfl,by decide +kernel,rfl,by decide +kernel,by decide +kernel⟩
theorem Zen (h:Here K mg "_law_is_number" Zb6) (T:Nm mg) (h_l_whole:Has P w K mg base "_law_whole" 1 ["_law_found"] Zdy) (h_l_divisor:Has P w K mg base "_law_divisor" 1 ["_law_one", "_law_other"] ZaG):Has P w K mg base "_law_is_number" 2 ["_law_prime_here", "_law_found"] Zdr:=by
  refine h.has (fun f fd F => F.binds fun _ _ _ _ _ _ us hl => by obtain ⟨_,_,rfl⟩:=Zdg hl; exact rfl) fun f fd F => F.ok Zem (fun vs H Q E h => ?_) (fun cdv A outer s H vs Q E hr h => ?_)
  · obtain ⟨_,_,_,rfl,_⟩:=h
    rfl
  obtain ⟨κ,u,x,rfl,nu,k⟩:=h
  refine ⟨_,(Zad (ZaC (Zap ZfZ (pv 0) Zac (Zan _)) (Zae (Zai (Zca (Zam h_l_whole hr (by rfl) (Zaa (pv 1) Zab)) (ZbG (ZgB Zi9 ZfY Zac (pv 1) (pv 0)))))) Zao)
    (Zad (ZaC (ZbW (ZaN (ZaD (Zak Zau (by rfl) T.isinstance boot_isinstance (Zaa (pv 1) (Zaa (Zdu (by rfl) T.tuple boot_tuple) Zab))))) (ZbW (Zap ZdG (Zak Zal (by rfl) T.len boot_len (Zaa (pv 1) Zab)) Zac (Zan _)) (ZbW (ZaN (ZaD (Zam h_l_whole hr (by rfl) (Zaa (Zar Zaq (pv 1) Zac (fun _ _ => rfl)) Zab)))) (ZbF (ZaN (ZaD (Zam h_l_whole hr (by rfl) (Zaa (Zar Zaq (pv 1) Zac (fun _ _ => rfl)) Zab)))))))).pt (Zae (Zai ZaX)) Zao)
    (Zae (Zai (Zca (ZaR ZfZ (Zar Zaq (pv 1) Zac (fun _ _ => rfl)) Zac (Zan _)) (ZbG (ZaR Zbi (Zam h_l_divisor hr (by rfl) (Zaa (Zar Zaq (pv 1) Zac (fun _ _ => rfl)) (Zaa (Zar Zaq (pv 1) Zac (fun _ _ => rfl)) Zab))) Zac (Zan _)))))))),?_⟩
  refine ⟨_,rfl,_,_,rfl,rfl,_,rfl,?_⟩
  cases κ with
  | r p hp =>
    have nu:u = .int x.val:=nu
    subst nu
    have xl:=x.isLt
    exact Zdk (show (0:Int) < (KX.r p hp).P from Zgg) ⟨_,rfl,_,rfl,_,rfl,Zei ⟨_,rfl,_,_,rfl,rfl,_,rfl,Zdk (show (0:Int) ≤ x.val by omega) ⟨_,rfl,_,_,rfl,rfl,Zj2 (show (x.val:Int) < (p:Int) by omega) k⟩⟩⟩
  | q =>
    obtain ⟨a,rfl,ha⟩:=nu
    have fx:=ZaU x
    refine ZgU (show ¬ (0:Int) < 0 by decide) ?_
    refine ⟨_,rfl,_,_,_,_,rfl,.of (.tup ha),.ty (Za7 K _),_,rfl,ZbE ?_⟩
    refine ⟨_,rfl,a,_,rfl,.inr (SqT.of ha),rfl,_,rfl,Zdo (fun z => absurd rfl z) (fun _ => ?_)⟩
    refine ⟨_,rfl,a,_,0,_,rfl,rfl,SqT.of ha,rfl,_,rfl,_,rfl,ZbE ?_⟩
    refine ⟨_,rfl,a,_,1,_,rfl,rfl,SqT.of ha,rfl,_,rfl,_,rfl,ZbE ?_⟩
    refine ⟨_,rfl,a,_,1,_,rfl,rfl,SqT.of ha,rfl,_,_,rfl,rfl,_,rfl,Zdk (show (0:Int) < x.den from fx.pos) ?_⟩
    refine ⟨_,rfl,a,_,0,_,rfl,rfl,SqT.of ha,rfl,_,rfl,a,_,1,_,rfl,rfl,SqT.of ha,rfl,_,_,rfl,rfl,Zj2 (show V.int ((Int.gcd x.num x.den:Nat):Int) = V.int 1 by rw [fx.cop]; rfl) k⟩
end
def ZfP (CF CR:Addr):Sp:=fun vs H Q _ => ∃ p:Int,vs = [.int p] ∧ PK p ∧ ∀ (H':Hp) (k:Addr),Same H H' → KdA CF CR p H' k → Q (.ref k) H'
section
variable {P:Program} {w:World} {K:PySem.W.Frag} {mg:Str → Option Value} {base:Heap} {CF CR cN:Addr}
theorem ZiY:FnScope ["_law_prime_here"] ["_law_prime_here"] (Zag ZeS):=⟨rfl,rfl,rfl,by decide +kernel,rfl,by decide +kernel,by decide +kernel⟩
theorem ZiZ (h:Here K mg "_law_kind" ZeS) (kd:Kd K mg CF CR) (hI:HasI P w K mg base CR 2 ["self", "prime"] (ZgO CR)):Has P w K mg base "_law_kind" 4 ["_law_prime_here"] (ZfP CF CR):=by
  refine h.has (fun f fd F => F.binds fun _ _ _ _ _ _ us hl => by obtain ⟨_,rfl⟩:=Zjl hl; exact rfl) fun f fd F => F.ok ZiY (fun vs H Q E h => ?_) (fun cdv A outer s H vs Q E hr h => ?_)
  · obtain ⟨_,rfl,_⟩:=h
    rfl
  obtain ⟨p,rfl,hp,k⟩:=h
  refine ⟨_,(Zad (ZaC (Zap Zbi (pv 0) Zac (Zan _)) (Zae (Zai (Zh2 kd.mkF (by rfl) kd.mgF))) Zao)
    (Zae (Zai (ZgJ hI hr (by rfl) kd.mgR (Zaa (pv 0) Zab))))),?_⟩
  refine ⟨_,rfl,rfl,_,rfl,?_⟩
  refine ZbD (fun z => ?_) (fun z => ?_)
  · intro f0 df0 nf0 ndf0 nef0
    refine k _ f0 (fun b o e => ?_) (.inl ⟨z,df0,Zaf⟩)
    rw [Zat (Zav e nf0),Zat (Zav e ndf0)]; exact e
  · rcases hp with rfl | ⟨pr1,lp1⟩
    · exact absurd rfl z
    refine ⟨_,rfl,fun x1 dx1 nx1 ndx1 nex1 => ⟨x1,dx1,p,rfl,Zaf,pr1,lp1,rfl,?_⟩⟩
    refine k _ x1 (fun b o e => ?_) (.inr ⟨pr1,lp1,dx1,Zaf⟩)
    rw [Zat (Zav e nx1),Zat (Zav e nx1),Zat (Zav e ndx1)]; exact e
end
section
variable {P:Program} {w:World} {K:PySem.W.Frag} {mg:Str → Option Value} {base:Heap}
theorem ZhB:FnScope ["_law_prime_here", "_law_one", "_law_other"] ["_law_prime_here", "_law_one", "_law_other"] (Zag ZdT):=⟨rfl,rfl,rfl,by decide +kernel,rfl,by decide +kernel,by decide +kernel⟩
theorem Zgu (h:Here K mg "_law_times" ZdT) (h_l_fraction:Has P w K mg base "_law_fraction" 2 ["_law_top", "_law_bottom"] Ze4):Has P w K mg base "_law_times" 3 ["_law_prime_here", "_law_one", "_law_other"] (Zc0 fun _ x y => x * y):=by
  refine h.has (fun f fd F => F.binds fun _ _ _ _ _ _ us hl => by obtain ⟨_,_,_,rfl⟩:=Zdv hl; exact rfl) fun f fd F => F.ok ZhB (fun vs H Q E h => ?_) (fun cdv A outer s H vs Q E hr h => ?_)
  · obtain ⟨_,_,_,_,_,rfl,_⟩:=h
    rfl
  obtain ⟨κ,u,v,x,y,rfl,nx,ny,bx,by',k⟩:=h
  refine ⟨_,(Zad (ZaC (Zap Zbi (pv 0) Zac (Zan _)) (Zae (Zai (Zam h_l_fraction hr (by rfl) (Zaa (Zaj Zaz (Zar Zaq (pv 1) Zac (fun _ _ => rfl)) (Zar Zaq (pv 2) Zac (fun _ _ => rfl))) (Zaa (Zaj Zaz (Zar Zaq (pv 1) Zac (fun _ _ => rfl)) (Zar Zaq (pv 2) Zac (fun _ _ => rfl))) Zab))))) Zao)
    (Zae (Zai (Zaj ZaQ (Zaj Zaz (pv 1) (pv 2)) (pv 0))))),?_⟩
  refine ⟨_,rfl,rfl,_,rfl,?_⟩
  cases κ with
  | q =>
    obtain ⟨a,rfl,ha⟩:=nx
    obtain ⟨b,rfl,hb⟩:=ny
    refine Zd5 (show KX.q.P = 0 from rfl) ?_
    have px:=(ZaU x).pos
    have py:=(ZaU y).pos
    refine ⟨_,rfl,a,_,0,_,rfl,rfl,SqT.of ha,rfl,_,rfl,b,_,0,_,rfl,rfl,SqT.of hb,rfl,_,_,rfl,rfl,bx.1.mulT by'.1,_,rfl,a,_,1,_,rfl,rfl,SqT.of ha,rfl,_,rfl,b,_,1,_,rfl,rfl,SqT.of hb,rfl,_,_,rfl,rfl,(bx.2.up (by decide)).mulG by'.2,_,_,rfl,Int.mul_pos px py,(bx.2.times by'.2),fun r hr' => ?_⟩
    have e:x * y = Rat.divInt (x.num * y.num) ((x.den:Int) * y.den):=by
      rw [← Rat.divInt_mul_divInt,Rat.num_divInt_den,Rat.num_divInt_den]
    refine k _ _ (Zah hr' _) ⟨r,rfl,?_⟩
    rw [Zaf]
    show _ = some (HO.tup [.int (x * y).num,.int ((x * y).den:Int)])
    rw [e]
  | r p hp =>
    have nx:u = .int x.val:=nx
    have ny:v = .int y.val:=ny
    subst nx ny
    refine ZfI (show (KX.r p hp).P ≠ 0 by have:0 < (KX.r p hp).P:=Zgg; omega) ⟨_,rfl,_,rfl,_,_,rfl,rfl,Za6 (ZaO hp x) (ZaO hp y),_,rfl,_,_,rfl,rfl,(show (p:Int) ≠ 0 by have:=hp.two; omega),k H _ (Same.refl H) ?_⟩
    show V.int (((x.val:Int) * y.val).fmod p) = V.int ((Fin.val (x * y):Nat):Int)
    have e:Fin.val (x * y) = (x.val * y.val) % p:=Fin.val_mul x y
    rw [e,Int.natCast_emod,Int.natCast_mul,Int.fmod_eq_emod_of_nonneg _ (by omega)]
theorem Zi0:FnScope ["_law_prime_here", "_law_one", "_law_other"] ["_law_prime_here", "_law_one", "_law_other"] (Zag ZeU):=⟨rfl,rfl,rfl,by decide +kernel,rfl,by decide +kernel,by decide +kernel⟩
theorem ZhC (h:Here K mg "_law_plus" ZeU) (h_l_fraction:Has P w K mg base "_law_fraction" 2 ["_law_top", "_law_bottom"] Ze4):Has P w K mg base "_law_plus" 3 ["_law_prime_here", "_law_one", "_law_other"] (Zc0 fun _ x y => x + y):=by
  refine h.has (fun f fd F => F.binds fun _ _ _ _ _ _ us hl => by obtain ⟨_,_,_,rfl⟩:=Zdv hl; exact rfl) fun f fd F => F.ok Zi0 (fun vs H Q E h => ?_) (fun cdv A outer s H vs Q E hr h => ?_)
  · obtain ⟨_,_,_,_,_,rfl,_⟩:=h
    rfl
  obtain ⟨κ,u,v,x,y,rfl,nx,ny,bx,by',k⟩:=h
  refine ⟨_,(Zad (ZaC (Zap Zbi (pv 0) Zac (Zan _)) (Zae (Zai (Zam h_l_fraction hr (by rfl) (Zaa (Zaj ZaP (Zaj Zaz (Zar Zaq (pv 1) Zac (fun _ _ => rfl)) (Zar Zaq (pv 2) Zac (fun _ _ => rfl))) (Zaj Zaz (Zar Zaq (pv 2) Zac (fun _ _ => rfl)) (Zar Zaq (pv 1) Zac (fun _ _ => rfl)))) (Zaa (Zaj Zaz (Zar Zaq (pv 1) Zac (fun _ _ => rfl)) (Zar Zaq (pv 2) Zac (fun _ _ => rfl))) Zab))))) Zao)
    (Zae (Zai (Zaj ZaQ (Zaj ZaP (pv 1) (pv 2)) (pv 0))))),?_⟩
  refine ⟨_,rfl,rfl,_,rfl,?_⟩
  cases κ with
  | q =>
    obtain ⟨a,rfl,ha⟩:=nx
    obtain ⟨b,rfl,hb⟩:=ny
    refine Zd5 (show KX.q.P = 0 from rfl) ?_
    have px:=(ZaU x).pos
    have py:=(ZaU y).pos
    refine ⟨_,rfl,a,_,0,_,rfl,rfl,SqT.of ha,rfl,_,rfl,b,_,1,_,rfl,rfl,SqT.of hb,rfl,_,_,rfl,rfl,bx.1.mulG by'.2,_,rfl,b,_,0,_,rfl,rfl,SqT.of hb,rfl,_,rfl,a,_,1,_,rfl,rfl,SqT.of ha,rfl,_,_,rfl,rfl,by'.1.mulG bx.2,_,_,rfl,rfl,_,rfl,a,_,1,_,rfl,rfl,SqT.of ha,rfl,_,rfl,b,_,1,_,rfl,rfl,SqT.of hb,rfl,_,_,rfl,rfl,(bx.2.up (by decide)).mulG by'.2,_,_,rfl,Int.mul_pos px py,(bx.2.times by'.2),fun r hr' => ?_⟩
    have e:x + y = Rat.divInt (x.num * y.den + y.num * x.den) ((x.den:Int) * y.den):=by
      rw [← Rat.divInt_add_divInt _ _ (by omega) (by omega),Rat.num_divInt_den,Rat.num_divInt_den]
    refine k _ _ (Zah hr' _) ⟨r,rfl,?_⟩
    rw [Zaf]
    show _ = some (HO.tup [.int (x + y).num,.int ((x + y).den:Int)])
    rw [e]
  | r p hp =>
    have nx:u = .int x.val:=nx
    have ny:v = .int y.val:=ny
    subst nx ny
    refine ZfI (show (KX.r p hp).P ≠ 0 by have:0 < (KX.r p hp).P:=Zgg; omega) ⟨_,rfl,_,rfl,_,_,rfl,rfl,_,rfl,_,_,rfl,rfl,(show (p:Int) ≠ 0 by have:=hp.two; omega),k H _ (Same.refl H) ?_⟩
    show V.int (((x.val:Int) + y.val).fmod p) = V.int ((Fin.val (x + y):Nat):Int)
    have e:Fin.val (x + y) = (x.val + y.val) % p:=Fin.val_add x y
    rw [e,Int.natCast_emod,Int.natCast_add,Int.fmod_eq_emod_of_nonneg _ (by omega)]
theorem sc_l_mixed:FnScope ["_law_cell", "_law_k", "_law_one"] ["_law_cell", "_law_k"] (Zag ZdU):=⟨rfl,rfl,rfl,by decide +kernel,rfl,by decide +kernel,by decide +kernel⟩
theorem ZhD (h:Here K mg "_law_mixed" ZdU):Has P w K mg base "_law_mixed" 1 ["_law_cell", "_law_k"] ZeC:=by
  refine h.has (fun f fd F => F.binds fun _ _ _ _ _ _ us hl => by obtain ⟨_,_,rfl⟩:=Zdg hl; exact rfl) fun f fd F => F.ok sc_l_mixed (fun vs H Q E h => ?_) (fun cdv A outer s H vs Q E hr h => ?_)
  · obtain ⟨_,_,rfl,_⟩:=h
    rfl
  obtain ⟨c,j,rfl,hj,k⟩:=h
  have nd:=sc_l_mixed.nd
  refine ⟨_,(Zad (Zas (i:=2) nd rfl (Or.inl rfl) (Zaj Za3 (Zaj ZbS (Zaj ZaP (Zaj ZaP (Zaj Za3 (pv 0) Zac) (Zaj Zaz (Zaj ZbS Zac (pv 1)) (pv 1))) (Zaj ZbS Zac (pv 1))) Zac) Zac))
    (Zae (Zai (Zaj Za3 (Zaj Zaz (pv 2) (Zaj ZaP (Zaj ZaP (Zaj Za3 (pv 2) Zac) (Zaj ZbS Zac (pv 1))) Zac)) Zac)))),?_⟩
  have f1:((40503:Int) * j).natAbs ≤ 10 ^ 150:=Nat.le_trans (show _ ≤ 100000000 by omega) (by decide)
  have f2:j.natAbs ≤ 10 ^ 150:=Nat.le_trans (show _ ≤ 100000000 by omega) (by decide)
  refine ⟨_,rfl,_,_,rfl,rfl,(by show (0:Int) < _; decide),_,rfl,_,_,rfl,rfl,.inl ⟨by decide,by decide⟩,_,rfl,_,_,rfl,rfl,Za6 f1 f2,_,_,rfl,rfl,_,rfl,_,_,rfl,rfl,.inl ⟨by decide,by decide⟩,_,_,rfl,rfl,_,_,rfl,rfl,.inr ⟨by decide,by decide⟩,_,_,rfl,rfl,(by show (0:Int) < _; decide),?_⟩
  refine ⟨_,rfl,_,rfl,_,_,rfl,rfl,(by show (0:Int) < _; decide),_,rfl,_,_,rfl,rfl,.inl ⟨by decide,by decide⟩,_,_,rfl,rfl,_,_,rfl,rfl,_,_,rfl,rfl,?_,_,_,rfl,rfl,(by show (0:Int) < _; decide),?_⟩
  · refine Za6 ?_ ?_
    · show ((c % 2147483647 + 40503 * j * j + 17 * j) * 48271 % 2147483647:Int).natAbs ≤ _
      exact Nat.le_trans (show _ ≤ 10000000000 by omega) (by decide)
    · show ((c % 2147483647 + 40503 * j * j + 17 * j) * 48271 % 2147483647 % 65537 + 3 * j + 1:Int).natAbs ≤ _
      exact Nat.le_trans (show _ ≤ 10000000000 by omega) (by decide)
  · exact k _
theorem ZhE:FnScope ["_law_prime_here", "_law_number_here"] ["_law_prime_here", "_law_number_here"] (Zag ZdV):=⟨rfl,rfl,rfl,by decide +kernel,rfl,by decide +kernel,by decide +kernel⟩
theorem Zgv (h:Here K mg "_law_drawn" ZdV) (h_l_fraction:Has P w K mg base "_law_fraction" 2 ["_law_top", "_law_bottom"] Ze4):Has P w K mg base "_law_drawn" 3 ["_law_prime_here", "_law_number_here"] Zd9:=by
  refine h.has (fun f fd F => F.binds fun _ _ _ _ _ _ us hl => by obtain ⟨_,_,rfl⟩:=Zdg hl; exact rfl) fun f fd F => F.ok ZhE (fun vs H Q E h => ?_) (fun cdv A outer s H vs Q E hr h => ?_)
  · obtain ⟨_,_,rfl,_⟩:=h
    rfl
  obtain ⟨κ,c,rfl,k⟩:=h
  refine ⟨_,(Zad (ZaC (Zap ZfZ (pv 0) Zac (Zan _)) (Zae (Zai (Zar Zaw (ZaJ (Zaa Zac (Zaa Zac (Zaa (Zaj ZbB (pv 0) Zac) (Zaa (Zaj ZaQ (Zaj ZbN (pv 1) Zac) (pv 0)) Zab))))) (Zaj Za3 (pv 1) Zac) (fun _ _ => rfl)))) Zao)
    (Zad (ZaC (Zap Zbi (Zaj Za3 (pv 1) Zac) Zac (Zan _)) (Zae (Zai (Zbs (Zaa (Zaj ZbB (Zaj Za3 (Zaj ZbN (pv 1) Zac) Zac) Zac) (Zaa Zac Zab))))) Zao)
    (Zae (Zai (Zam h_l_fraction hr (by rfl) (Zaa (Zaj ZbB (Zaj Za3 (Zaj ZbN (pv 1) Zac) Zac) Zac) (Zaa (Zaj ZaP Zac (Zaj Za3 (Zaj ZbN (pv 1) Zac) Zac)) Zab))))))),?_⟩
  refine ⟨_,rfl,_,_,rfl,rfl,_,rfl,?_⟩
  cases κ with
  | r p hp =>
    have h2:=hp.two
    refine Zdk (show (0:Int) < (KX.r p hp).P from Zgg) ⟨_,rfl,_,_,rfl,rfl,_,rfl,_,_,rfl,rfl,⟨by decide,by decide⟩,_,rfl,_,_,rfl,rfl,(show (p:Int) ≠ 0 by omega),(by show 4 ≤ sizeLine; decide),fun l nl => ?_⟩
    obtain ⟨x4,e4⟩:=Zlz hp (c / 4)
    have key:∃ (v:V) (x:Fin p),atI [V.int 0,V.int 1,V.int ((p:Int) - 1),V.int ((c / 4).fmod p)] (c % 4) = some v ∧ v = .int (x.val:Int):=by
      rcases (by omega:c % 4 = 0 ∨ c % 4 = 1 ∨ c % 4 = 2 ∨ c % 4 = 3) with e | e | e | e <;> rw [e]
      · exact ⟨_,⟨0,by omega⟩,rfl,rfl⟩
      · exact ⟨_,⟨1,by omega⟩,rfl,rfl⟩
      · exact ⟨_,⟨p - 1,by omega⟩,rfl,by show V.int ((p:Int) - 1) = V.int (((p - 1:Nat)):Int); congr 1; omega⟩
      · exact ⟨_,x4,rfl,by rw [e4]⟩
    obtain ⟨v,x,av,ev⟩:=key
    exact ⟨_,rfl,_,_,rfl,rfl,(by show (0:Int) < _; decide),l,_,_,_,rfl,rfl,SqL.of Zaf,av,k _ v x (Zah nl _) ev trivial⟩
  | q =>
    refine ZgU (show ¬ (0:Int) < 0 by decide) ?_
    refine ⟨_,rfl,_,_,rfl,rfl,(by show (0:Int) < _; decide),rfl,_,rfl,?_⟩
    refine ZbD (fun _ => ?_) (fun _ => ?_)
    · obtain ⟨x,e1,e2⟩:=ZfJ (n:=c / 3 % 3 - 1) (d:=1) ⟨by decide,by rw [Int.gcd_one]⟩
      refine ⟨_,rfl,_,_,rfl,rfl,⟨by decide,by decide⟩,_,_,rfl,rfl,(by show (0:Int) < _; decide),_,_,rfl,rfl,(by show 2 ≤ sizeLine; decide),fun z nz => ?_⟩
      have ex:x = Rat.divInt (c / 3 % 3 - 1) 1:=by rw [← e1,← e2,Rat.num_divInt_den]
      refine k _ _ x (Zah nz _) ⟨z,rfl,?_⟩ ?_
      · rw [Zaf,e1,e2]
      · rw [ex]; exact ZmH (by decide) (by decide) (by omega)
    · refine ⟨_,rfl,_,_,rfl,rfl,⟨by decide,by decide⟩,_,_,rfl,rfl,(by show (0:Int) < _; decide),_,_,rfl,rfl,_,rfl,_,_,rfl,rfl,⟨by decide,by decide⟩,_,_,rfl,rfl,(by show (0:Int) < _; decide),_,_,rfl,rfl,c / 3 % 19 - 9,1 + c / 57 % 4,rfl,by omega,Bits.of (Nat.lt_of_lt_of_le (show _ < 2 ^ 3 by show _ < 8; omega) (Nat.pow_le_pow_right (by decide) (by decide))),fun r nr => ?_⟩
      exact k _ _ (Rat.divInt (c / 3 % 19 - 9) (1 + c / 57 % 4)) (Zah nr _) ⟨r,rfl,Zaf⟩ (ZmH (by omega) (by omega) (by omega))
theorem sc_l_cut:FnScope ["_law_prime_here", "_law_numbers"] ["_law_prime_here", "_law_numbers"] (Zag Zf8):=⟨rfl,rfl,rfl,by decide +kernel,rfl,by decide +kernel,by decide +kernel⟩
theorem ZjM (h:Here K mg "_law_cut" Zf8) (T:Nm mg) (h_l_make:Has P w K mg base "_law_make" 1 ["_law_prime_here", "_law_number_here"] Za2):Has P w K mg base "_law_cut" 2 ["_law_prime_here", "_law_numbers"] Zc3:=by
  refine h.has (fun f fd F => F.binds fun _ _ _ _ _ _ us hl => by obtain ⟨_,_,rfl⟩:=Zdg hl; exact rfl) fun f fd F => F.ok sc_l_cut (fun vs H Q E h => ?_) (fun cdv A outer s H vs Q E hr h => ?_)
  · obtain ⟨_,_,_,_,rfl,_⟩:=h
    rfl
  obtain ⟨κ,a,xs,g,rfl,ha,al,k⟩:=h
  have nd:=sc_l_cut.nd
  refine ⟨_,(Zad (ZbH PassesOwn.never (Zgx (Zap ZfZ (Zak Zal (by rfl) T.len boot_len (Zaa (pv 1) Zab)) Zac (Zan _)) (ZfW (Zap (Zj1 hr) (Zar Zaw (pv 1) (Zaj ZbB (Zak Zal (by rfl) T.len boot_len (Zaa (pv 1) Zab)) Zac) (fun _ _ => rfl)) (Zam h_l_make hr (by rfl) (Zaa (pv 0) (Zaa Zac Zab))) (Zan _)))).pt (Zae (Zas (i:=1) nd rfl (Or.inl rfl) (Zbt ZbY (pv 1) Zce (ZbO (ZeH ZcR Zac))))))
    (Zae (Zai (pv 1)))),?_⟩
  have lx:=al.1
  refine ⟨fun mm σ H' => ∃ (b:Addr) (r:Nat),mm = r ∧ σ = [some (.int κ.P),some (.ref b)] ∧ Same H H' ∧ H' b = some (.lst (xs.take r)) ∧ r ≤ g.length ∧ (∀ j,r ≤ j → g.getD j 0 = 0) ∧ (b = a ∨ H b = none),⟨_,a,g.length,rfl,rfl,Same.refl _,by rw [← lx,List.take_length]; exact ha,Nat.le_refl _,fun j hj => ?_,.inl rfl⟩,?_⟩
  · rw [List.getD_eq_getElem?_getD,List.getElem?_eq_none hj]; rfl
  rintro mm σ H' ⟨b,r,rfl,rfl,S,hb,hr',h0,fb⟩
  have lt:(xs.take mm).length = mm:=by rw [List.length_take]; omega
  refine ⟨_,rfl,b,_,rfl,.inl (SqL.of hb),_,_,rfl,rfl,_,rfl,?_⟩
  rw [lt]
  refine ZbI (fun z => ?_) (fun z => ?_)
  · have z:(0:Int) < (mm:Int):=z
    obtain ⟨v,hv,nv⟩:=Zbr al (i:=mm - 1) (by omega)
    have hat:atI (xs.take mm) (((xs.take mm).length:Int) - 1) = some v:=by
      rw [lt,show (mm:Int) - 1 = ((mm - 1:Nat):Int) by omega]
      refine Za4 ?_
      rw [List.getElem?_take,if_pos (by omega)]; exact hv
    refine ⟨_,rfl,_,rfl,b,_,rfl,.inl (SqL.of hb),_,_,rfl,rfl,b,_,_,v,rfl,rfl,SqL.of hb,hat,_,rfl,κ,0,0,rfl,Zgi,fun H2 v0 S2 n0 => ?_⟩
    obtain ⟨bb,eq,iff⟩:=ZkT (nv.same (S.trans S2)) n0
    refine ⟨bb,eq,_,rfl,?_⟩
    cases bb with
    | true =>
      have gz:=iff.mp rfl
      refine Zei ⟨_,fun _ _ h => h,?_⟩
      refine ⟨_,rfl,_,rfl,_,rfl,b,_,rfl,SqL.of (S2 _ _ hb),fun p np => ?_⟩
      have ec:Zfq (xs.take mm) none (some (-1)) = xs.take (mm - 1):=by
        unfold Zfq
        rw [HT.sIx_none,List.drop_zero,Nat.sub_zero,lt]
        have:HT.sIx mm mm (some (-1)) = mm - 1:=by
          simp only [HT.sIx]
          rw [if_pos (by decide)]
          omega
        rw [this,List.take_take]
        congr 1
        omega
      refine ⟨mm - 1,by omega,p,mm - 1,rfl,rfl,(S.trans S2).trans (Zah np _),?_,by omega,fun j hj => ?_,.inr ((S.trans S2).free np)⟩
      · rw [Zaf]
        exact congrArg (fun z => some (HO.lst z)) ec
      · by_cases e:j = mm - 1
        · rw [e]; exact gz
        · exact h0 j (by omega)
    | false =>
      refine ZbE ?_
      exact ⟨_,rfl,k H2 b mm (S.trans S2) (S2 _ _ hb) hr' h0 (.inr fun z => by have:=iff.mpr z; cases this) fb⟩
  · have z:¬ (0:Int) < (mm:Int):=z
    exact ⟨_,rfl,k H' b mm S hb hr' h0 (.inl (by omega)) fb⟩
theorem sc_l_poly_times:FnScope ["_law_prime_here", "_law_f", "_law_g", "_law_told", "_law_i", "_law_j"] ["_law_prime_here", "_law_f", "_law_g"] (Zag ZbQ):=⟨rfl,rfl,rfl,by decide +kernel,rfl,by decide +kernel,by decide +kernel⟩
theorem Zef (h:Here K mg "_law_poly_times" ZbQ) (T:Nm mg) (h_l_make:Has P w K mg base "_law_make" 3 ["_law_prime_here", "_law_number_here"] Za2) (h_l_plus:Has P w K mg base "_law_plus" 3 ["_law_prime_here", "_law_one", "_law_other"] (Zc0 fun _ x y => x + y)) (h_l_times:Has P w K mg base "_law_times" 3 ["_law_prime_here", "_law_one", "_law_other"] (Zc0 fun _ x y => x * y)) (h_l_cut:Has P w K mg base "_law_cut" 3 ["_law_prime_here", "_law_numbers"] Zc3):Has P w K mg base "_law_poly_times" 4 ["_law_prime_here", "_law_f", "_law_g"] Za9:=by
  refine h.has (fun f fd F => F.binds fun _ _ _ _ _ _ us hl => by obtain ⟨_,_,_,rfl⟩:=Zdv hl; exact rfl) fun f fd F => F.ok sc_l_poly_times (fun vs H Q E h => ?_) (fun cdv A outer s H vs Q E hr h => ?_)
  · obtain ⟨_,_,_,_,_,_,_,_,_,_,_,rfl,_⟩:=h
    rfl
  obtain ⟨κ,fa,ga,xs,ys,F,G,Dd,Ee,M,N,rfl,hF,hG,aF,aG,lF,lG,qF,qG,hD,hE,lD,lM,k⟩:=h
  have nd:=sc_l_poly_times.nd
  refine ⟨_,(Zad (Zet (i:=3) ["_law_k"] [(0, "_law_prime_here")] nd rfl rfl rfl (ZbA (by rfl) T.range (Zaa (Zaj ZaP (Zak Zal (by rfl) T.len boot_len (Zaa (pv 1) Zab)) (Zak Zal (by rfl) T.len boot_len (Zaa (pv 2) Zab))) Zab)) (by exact fun _ _ _ _ => (ZaH (i:=0) (show (["_law_k", "_law_prime_here"]:List Str).Nodup by decide +kernel) rfl (Or.inl rfl))) (by exact fun _ _ _ _ => (Zam h_l_make hr (by rfl) (Zaa (pv 1) (Zaa Zac Zab)))) ⟨⟨rfl,rfl,Or.inl rfl⟩,trivial⟩)
    (Zad (ZcD PassesOwn.never rfl (ZbA (by rfl) T.range (Zaa (Zak Zal (by rfl) T.len boot_len (Zaa (pv 1) Zab)) Zab)) (ZaH (i:=4) nd rfl (Or.inl rfl)) (Zae (ZcD PassesOwn.never rfl (ZbA (by rfl) T.range (Zaa (Zak Zal (by rfl) T.len boot_len (Zaa (pv 2) Zab)) Zab)) (ZaH (i:=5) nd rfl (Or.inl rfl)) (Zae (Zle (Zam h_l_plus hr (by rfl) (Zaa (pv 0) (Zaa (Zar Zaw (pv 3) (Zaj ZaP (pv 4) (pv 5)) (fun _ _ => rfl)) (Zaa (Zam h_l_times hr (by rfl) (Zaa (pv 0) (Zaa (Zar Zaw (pv 1) (pv 4) (fun _ _ => rfl)) (Zaa (Zar Zaw (pv 2) (pv 5) (fun _ _ => rfl)) Zab)))) Zab)))) (Zld (pv 3) (Zaj ZaP (pv 4) (pv 5)) Zjf))))))
    (Zae (Zai (Zam h_l_cut hr (by rfl) (Zaa (pv 0) (Zaa (pv 3) Zab))))))),?_⟩
  have lx:=aF.1
  have ly:=aG.1
  have hDE:=Int.mul_pos hD hE
  have bM:F.length * (G.length * (M * N)) < 2 ^ 3000:=lM
  have mulb:∀ {x y:κ.F},QN κ Dd M x → QN κ Ee N y → 1 ≤ F.length → 1 ≤ G.length → B1 κ x ∧ B1 κ y ∧ B1 κ (x * y):=by
    intro x y hx hy f1 g1
    have m1:M * N ≤ F.length * (G.length * (M * N)):=by
      have a:1 * (M * N) ≤ G.length * (M * N):=Nat.mul_le_mul_right _ g1
      have b:1 * (G.length * (M * N)) ≤ F.length * (G.length * (M * N)):=Nat.mul_le_mul_right _ f1
      omega
    refine ⟨hx.b1 hD lD.1 lD.2.2.1,hy.b1 hE lD.2.1 lD.2.2.2.1,(QN.mul hx hy).b1 hDE lD.2.2.2.2 (Nat.lt_of_le_of_lt m1 bM)⟩
  refine ⟨_,rfl,fa,_,rfl,.inl (SqL.of hF),_,rfl,ga,_,rfl,.inl (SqL.of hG),_,_,rfl,rfl,(xs.length:Int) + (ys.length:Int),rfl,by omega,by omega,?_⟩
  rw [show ((xs.length:Int) + (ys.length:Int)).toNat = F.length + G.length by omega]
  refine Zcx (lo:=0) (n:=F.length + G.length) (fun q zs H4 => Same H H4 ∧ AllG (NR κ H4) zs (List.replicate q 0)) (by omega) ⟨Same.refl _,.nil⟩ ?_ ?_
  · rintro q zs H4 _ _ ⟨S4,e4⟩
    refine ⟨_,rfl,κ,0,0,rfl,Zgi,fun H5 v0 S5 n0 => ⟨S4.trans S5,?_⟩⟩
    rw [List.replicate_succ']
    exact (e4.mono fun _ _ n => n.same S5).append (.one n0)
  rintro zs H1 _ ⟨S1,e1⟩ tb ntb1
  have Sd:=Zah ntb1 (.lst zs)
  have qt:=Zaf (H:=H1) (a:=tb) (o:=.lst zs)
  have e2:=e1.mono fun _ _ n => n.same Sd
  have ntb:H tb = none:=S1.free ntb1
  have S2:=S1.trans Sd
  generalize upd H1 tb (.lst zs) = H2 at *
  rw [← ZlE] at e2
  refine ⟨_,rfl,fa,_,rfl,.inl (SqL.of (S2 _ _ hF)),(xs.length:Int),rfl,by omega,by omega,?_⟩
  rw [show ((xs.length:Int)).toNat = F.length by omega]
  refine ZcQ (lo:=0) (n:=F.length) (fun i σ H3 => ∃ (z4 z5:Option V) (zs:List V),σ = [some (.int κ.P),some (.ref fa),some (.ref ga),some (.ref tb),z4,z5] ∧ Same H H3 ∧ H3 tb = some (.lst zs) ∧ AllG (NR κ H3) zs (ZcB F G i 0)) ⟨_,_,zs,rfl,S2,qt,e2⟩ ?_ ?_
  · rintro i σ H3 hi ⟨z4,z5,zs,rfl,S3,q3,e3⟩
    refine ⟨_,rfl,ga,_,rfl,.inl (SqL.of (S3 _ _ hG)),(ys.length:Int),rfl,by omega,by omega,?_⟩
    rw [show ((ys.length:Int)).toNat = G.length by omega]
    refine ZcQ (lo:=0) (n:=G.length) (fun j σ H3 => ∃ (z5:Option V) (zs:List V),σ = [some (.int κ.P),some (.ref fa),some (.ref ga),some (.ref tb),some (.int (0 + (i:Int))),z5] ∧ Same H H3 ∧ H3 tb = some (.lst zs) ∧ AllG (NR κ H3) zs (ZcB F G i j)) ⟨_,zs,rfl,S3,q3,e3⟩ ?_ ?_
    · rintro j σ H4 hj ⟨z5,zs,rfl,S4,q4,e4⟩
      have lz:=e4.1
      rw [ZaW] at lz
      obtain ⟨vt,hvt,nvt⟩:=Zbr e4 (i:=i + j) (by rw [ZaW]; omega)
      obtain ⟨vf,hvf,nvf⟩:=Zbr aF (i:=i) hi
      obtain ⟨vg,hvg,nvg⟩:=Zbr aG (i:=j) hj
      have mt:=List.mem_of_getElem? (Zct (show i + j < (ZcB F G i j).length by rw [ZaW]; omega))
      have bt:B1 κ ((ZcB F G i j).getD (i + j) 0):=(ZkS hDE qF qG hi (by omega) _ mt).b1 hDE lD.2.2.2.2 bM
      obtain ⟨bf,bg,bfg⟩:=mulb (qF _ (List.mem_of_getElem? (Zct hi))) (qG _ (List.mem_of_getElem? (Zct hj))) (by omega) (by omega)
      have eij:(0 + (i:Int)) + (0 + (j:Int)) = ((i + j:Nat):Int):=by omega
      refine ⟨_,rfl,_,rfl,_,rfl,_,rfl,_,_,rfl,rfl,tb,_,_,_,rfl,rfl,SqL.of q4,(by rw [eij]; exact Za4 hvt),_,rfl,_,rfl,_,rfl,fa,_,_,_,rfl,rfl,SqL.of (S4 _ _ hF),(by rw [Int.zero_add]; exact Za4 hvf),_,rfl,_,rfl,ga,_,_,_,rfl,rfl,SqL.of (S4 _ _ hG),(by rw [Int.zero_add]; exact Za4 hvg),κ,vf,vg,_,_,rfl,nvf.same S4,nvg.same S4,bf,bg,fun H5 vp S5 np => ?_⟩
      refine ⟨κ,vt,vp,_,_,rfl,nvt.same S5,np,bt,bfg,fun H6 v S6 nv => ?_⟩
      have S46:=S5.trans S6
      have q6:=S46 _ _ q4
      refine ⟨_,rfl,_,rfl,_,rfl,_,_,rfl,rfl,tb,zs,_,_,rfl,rfl,q6,(by rw [eij]; exact ZkL (Int.natCast_nonneg _) (by omega)),?_⟩
      rw [Int.toNat_natCast]
      have O7:Off [tb] H6 (upd H6 tb (.lst (zs.set (i + j) v))):=Ze3 (Same.refl H6)
      refine ⟨_,zs.set (i + j) v,rfl,Off.same O7 (S4.trans S46) (fun z hz => by rw [List.mem_singleton.mp hz]; exact ntb),Zaf,?_⟩
      rw [ZiD hi hj]
      exact (e4.mono fun _ _ n => (n.same S46).off q6 O7).set _ (nv.off q6 O7)
    · rintro σ H4 ⟨z5,zs,rfl,S4,q4,e4⟩
      rw [Zjx] at e4
      exact ⟨_,_,zs,rfl,S4,q4,e4⟩
  · rintro σ H3 ⟨z4,z5,zs,rfl,S3,q3,e3⟩
    refine ⟨_,rfl,_,rfl,κ,tb,zs,_,rfl,q3,e3,fun H4 D r S4 hD4 lr h0 h1 fD => ?_⟩
    rw [ZaW] at lr
    refine k H4 D _ r (S3.trans S4) hD4 (Zbw (e3.mono fun _ _ n => n.same S4) r) lr h0 h1 ?_
    rcases fD with rfl | fD
    · exact ntb
    · exact S3.free fD
end
section
variable {P:Program} {w:World} {K:PySem.W.Frag} {mg:Str → Option Value} {base:Heap}
theorem sc_l_poly:FnScope ["_law_prime_here", "_law_cell", "_law_most", "_law_many"] ["_law_prime_here", "_law_cell", "_law_most"] (Zag ZeV):=⟨rfl,rfl,rfl,by decide +kernel,rfl,by decide +kernel,by decide +kernel⟩
theorem Zi1 (h:Here K mg "_law_poly" ZeV) (T:Nm mg) (h_l_mixed:Has P w K mg base "_law_mixed" 3 ["_law_cell", "_law_k"] ZeC) (h_l_drawn:Has P w K mg base "_law_drawn" 3 ["_law_prime_here", "_law_number_here"] Zd9) (h_l_cut:Has P w K mg base "_law_cut" 3 ["_law_prime_here", "_law_numbers"] Zc3):Has P w K mg base "_law_poly" 4 ["_law_prime_here", "_law_cell", "_law_most"] ZfL:=by
  refine h.has (fun f fd F => F.binds fun _ _ _ _ _ _ us hl => by obtain ⟨_,_,_,rfl⟩:=Zdv hl; exact rfl) fun f fd F => F.ok sc_l_poly (fun vs H Q E h => ?_) (fun cdv A outer s H vs Q E hr h => ?_)
  · obtain ⟨_,_,_,rfl,_⟩:=h
    rfl
  obtain ⟨κ,c,most,rfl,m60,k⟩:=h
  have nd:=sc_l_poly.nd
  refine ⟨_,(Zad (Zas (i:=3) nd rfl (Or.inl rfl) (Zaj ZaQ (Zam h_l_mixed hr (by rfl) (Zaa (pv 1) (Zaa Zac Zab))) (Zaj ZaP (pv 2) Zac)))
    (Zae (Zai (Zam h_l_cut hr (by rfl) (Zaa (pv 0) (Zaa (Zdf ["_law_k"] [(0, "_law_prime_here"),(1, "_law_cell")] rfl (ZbA (by rfl) T.range (Zaa (pv 3) Zab)) (by exact fun _ _ _ _ => (ZaH (i:=0) (show (["_law_k", "_law_prime_here", "_law_cell"]:List Str).Nodup by decide +kernel) rfl (Or.inl rfl))) (by exact fun _ _ _ _ => (Zam h_l_drawn hr (by rfl) (Zaa (pv 1) (Zaa (Zam h_l_mixed hr (by rfl) (Zaa (pv 2) (Zaa (pv 0) Zab))) Zab)))) ⟨⟨rfl,rfl,Or.inl rfl⟩,⟨⟨rfl,rfl,Or.inl rfl⟩,trivial⟩⟩) Zab)))))),?_⟩
  refine ⟨_,rfl,c,60,rfl,by decide,fun mx => ?_⟩
  refine ⟨_,rfl,_,_,rfl,rfl,_,_,rfl,rfl,(show (most:Int) + 1 ≠ 0 by omega),?_⟩
  obtain ⟨n,en,ln⟩:=ZlA (a:=mx) (n:=most + 1) (by omega)
  have en':mx.fmod ((most:Int) + 1) = (n:Int):=by rw [← en]; congr 1
  refine ⟨_,rfl,_,rfl,(n:Int),(by rw [← en']),by omega,by omega,?_⟩
  rw [Int.toNat_natCast]
  refine Zcx (lo:=0) (n:=n) (fun q ys H6 => Same H H6 ∧ ∃ g:List κ.F,AllG (NR κ H6) ys g ∧ g.length = q ∧ ∀ x ∈ g,QN κ 12 108 x) (by omega) ⟨Same.refl _,[],.nil,rfl,fun x h => nomatch h⟩ ?_ ?_
  · rintro q ys H6 hq _ ⟨S6,g,ag,lg,qg⟩
    refine ⟨_,rfl,_,rfl,_,rfl,c,0 + (q:Int),rfl,by omega,fun mx => ?_⟩
    refine ⟨κ,mx,rfl,fun H7 v x S7 nv qv => ⟨S6.trans S7,g ++ [x],(ag.mono fun _ _ n => n.same S7).append (.one nv),by rw [List.length_append,lg]; rfl,fun y hy => ?_⟩⟩
    rcases List.mem_append.mp hy with z | z
    · exact qg y z
    · rw [List.mem_singleton.mp z]; exact qv
  rintro ys H6 _ ⟨S6,g,ag,lg,qg⟩ ha nha
  have Sa:=Zah nha (.lst ys)
  refine ⟨κ,ha,ys,g,rfl,Zaf,ag.mono (fun _ _ n => n.same Sa),fun H7 D r S7 hD lr r0 r1 _ => ?_⟩
  refine k H7 D _ (g.take r) (S6.trans (Sa.trans S7)) ⟨hD,Zbw (ag.mono fun _ _ n => n.same (Sa.trans S7)) r⟩ (by rw [List.length_take]; omega) (Za0 lr r1) fun x hx => qg x (List.mem_of_mem_take hx)
theorem sc_l_is_poly:FnScope ["_law_prime_here", "_law_found", "_law_one"] ["_law_prime_here", "_law_found"] (Zag ZcL):=⟨rfl,rfl,rfl,by decide +kernel,rfl,by decide +kernel,by decide +kernel⟩
theorem ZfQ (h:Here K mg "_law_is_poly" ZcL) (T:Nm mg) (h_l_is_number:Has P w K mg base "_law_is_number" 2 ["_law_prime_here", "_law_found"] Zdr) (h_l_make:Has P w K mg base "_law_make" 2 ["_law_prime_here", "_law_number_here"] Za2):Has P w K mg base "_law_is_poly" 3 ["_law_prime_here", "_law_found"] ZbL:=by
  refine h.has (fun f fd F => F.binds fun _ _ _ _ _ _ us hl => by obtain ⟨_,_,rfl⟩:=Zdg hl; exact rfl) fun f fd F => F.ok sc_l_is_poly (fun vs H Q E h => ?_) (fun cdv A outer s H vs Q E hr h => ?_)
  · obtain ⟨_,_,_,_,rfl,_⟩:=h
    rfl
  obtain ⟨κ,a,xs,g,rfl,⟨ha,al⟩,tg,k⟩:=h
  have nd:=sc_l_is_poly.nd
  refine ⟨_,(Zad (ZaC (ZaN (ZaD (Zak Zau (by rfl) T.isinstance boot_isinstance (Zaa (pv 1) (Zaa (Zdu (by rfl) T.list boot_list) Zab))))) (Zae (Zai ZaX)) Zao)
    (Zad (ZcD PassesOwn.never rfl (ZcH (pv 1)) (ZaH (i:=2) nd rfl (Or.inl rfl)) (Zae (ZaC (ZaN (ZaD (Zam h_l_is_number hr (by rfl) (Zaa (pv 0) (Zaa (pv 2) Zab))))) (Zae (Zai ZaX)) Zao)))
    (Zae (Zai (Zlb (ZaR Zbi (Zak Zal (by rfl) T.len boot_len (Zaa (pv 1) Zab)) Zac (Zan _)) (ZbG (ZaR (Zlx hr) (Zar Zaw (pv 1) (Zaj ZbB (Zak Zal (by rfl) T.len boot_len (Zaa (pv 1) Zab)) Zac) (fun _ _ => rfl)) (Zam h_l_make hr (by rfl) (Zaa (pv 0) (Zaa Zac Zab))) (Zan _)))))))),?_⟩
  have lx:=al.1
  refine ⟨_,rfl,_,_,_,_,rfl,.of (.lst ha),.ty (Za7 K _),_,rfl,ZbE ?_⟩
  refine ⟨_,rfl,a,rfl,⟨_,SqL.of ha⟩,?_⟩
  refine ZcP (xs:=xs) (fun j σ H4 => ∃ z3:Option V,σ = [some (.int κ.P),some (.ref a),z3] ∧ H4 = H) ⟨_,rfl,rfl⟩ ?_ ?_ ?_
  · rintro j σ H4 - ⟨z3,rfl,rfl⟩
    exact SqL.of ha
  · rintro j u σ H4 hu ⟨z3,rfl,rfl⟩
    obtain ⟨x,hx',nx⟩:=al.get hu
    exact ⟨_,rfl,_,rfl,κ,u,x,rfl,nx,_,rfl,ZbE ⟨_,rfl,rfl⟩⟩
  · rintro σ H4 ⟨z3,rfl,rfl⟩
    refine ⟨_,rfl,a,_,rfl,.inl (SqL.of ha),rfl,_,rfl,?_⟩
    rcases tg with z | z
    · exact Zd5 (show (xs.length:Int) = 0 by omega) (k H4 (Same.refl _))
    · have g0:0 < g.length:=Nat.pos_of_ne_zero fun e => z (Zax (by omega))
      refine ZfI (show (xs.length:Int) ≠ 0 by omega) ?_
      obtain ⟨v,hv,nv⟩:=Zbr al (i:=g.length - 1) (by omega)
      refine ⟨_,rfl,_,rfl,a,_,rfl,.inl (SqL.of ha),_,_,rfl,rfl,a,_,_,v,rfl,rfl,SqL.of ha,(by rw [show (xs.length:Int) - 1 = ((g.length - 1:Nat):Int) by omega]; exact Za4 hv),_,rfl,κ,0,0,rfl,Zgi,fun H2 v0 S2 n0 => ?_⟩
      obtain ⟨b,eb,iff⟩:=ZkT (nv.same S2) n0
      refine ⟨b,eb,?_⟩
      cases b with
      | true => exact absurd (iff.mp rfl) z
      | false => exact k H2 S2
theorem sc_l_poly_plus:FnScope ["_law_prime_here", "_law_f", "_law_g", "_law_told", "_law_k"] ["_law_prime_here", "_law_f", "_law_g"] (Zag Zb7):=⟨rfl,rfl,rfl,by decide +kernel,rfl,by decide +kernel,by decide +kernel⟩
theorem Zeo (h:Here K mg "_law_poly_plus" Zb7) (T:Nm mg) (Tm:mg "max" = none) (h_l_plus:Has P w K mg base "_law_plus" 3 ["_law_prime_here", "_law_one", "_law_other"] (Zc0 fun _ x y => x + y)) (h_l_cut:Has P w K mg base "_law_cut" 3 ["_law_prime_here", "_law_numbers"] Zc3):Has P w K mg base "_law_poly_plus" 4 ["_law_prime_here", "_law_f", "_law_g"] ZcF:=by
  refine h.has (fun f fd F => F.binds fun _ _ _ _ _ _ us hl => by obtain ⟨_,_,_,rfl⟩:=Zdv hl; exact rfl) fun f fd F => F.ok sc_l_poly_plus (fun vs H Q E h => ?_) (fun cdv A outer s H vs Q E hr h => ?_)
  · obtain ⟨_,_,_,_,_,_,_,rfl,_⟩:=h
    rfl
  obtain ⟨κ,fa,ga,xs,ys,F,G,rfl,⟨hF,aF⟩,⟨hG,aG⟩,lF,lG,bF,bG,k⟩:=h
  have nd:=sc_l_poly_plus.nd
  refine ⟨_,(Zad (Zas (i:=3) nd rfl (Or.inl rfl) (ZaJ Zab))
    (Zad (ZcD PassesOwn.never rfl (ZbA (by rfl) T.range (Zaa (Zak (Zfj rfl) (by rfl) Tm PyProof.Rows.Boot.max (Zaa (Zak Zal (by rfl) T.len boot_len (Zaa (pv 1) Zab)) (Zaa (Zak Zal (by rfl) T.len boot_len (Zaa (pv 2) Zab)) Zab))) Zab)) (ZaH (i:=4) nd rfl (Or.inl rfl)) (Zae (ZaC (Zap Zja (pv 4) (Zak Zal (by rfl) T.len boot_len (Zaa (pv 1) Zab)) (Zan _)) (Zae (Zcd (ZhZ PySem.F.plainAttrs_list PySem.F.slot_list_append PySem.F.type_list_append Zcf (pv 3) (Zaa (Zar Zaw (pv 2) (pv 4) (fun _ _ => rfl)) Zab)))) (Zae (ZaC (Zap Zja (pv 4) (Zak Zal (by rfl) T.len boot_len (Zaa (pv 2) Zab)) (Zan _)) (Zae (Zcd (ZhZ PySem.F.plainAttrs_list PySem.F.slot_list_append PySem.F.type_list_append Zcf (pv 3) (Zaa (Zar Zaw (pv 1) (pv 4) (fun _ _ => rfl)) Zab)))) (Zae (Zcd (ZhZ PySem.F.plainAttrs_list PySem.F.slot_list_append PySem.F.type_list_append Zcf (pv 3) (Zaa (Zam h_l_plus hr (by rfl) (Zaa (pv 0) (Zaa (Zar Zaw (pv 1) (pv 4) (fun _ _ => rfl)) (Zaa (Zar Zaw (pv 2) (pv 4) (fun _ _ => rfl)) Zab)))) Zab)))))))))
    (Zae (Zai (Zam h_l_cut hr (by rfl) (Zaa (pv 0) (Zaa (pv 3) Zab))))))),?_⟩
  have lx:=aF.1
  have ly:=aG.1
  refine ⟨(by show 0 ≤ sizeLine; decide),fun tb ntb => ?_⟩
  have St:=Zah ntb (.lst [])
  have qt:=Zaf (H:=H) (a:=tb) (o:=.lst [])
  generalize upd H tb (.lst []) = H1 at *
  obtain ⟨n,hn⟩:∃ n,n = max F.length G.length:=⟨_,rfl⟩
  have en:(if (ys.length:Int) > (xs.length:Int) then (ys.length:Int) else (xs.length:Int)) = (n:Int):=by
    split <;> omega
  refine ⟨_,rfl,fa,_,rfl,.inl (SqL.of (St _ _ hF)),_,rfl,ga,_,rfl,.inl (SqL.of (St _ _ hG)),_,_,rfl,(n:Int),(by rw [← en]),by omega,by omega,?_⟩
  rw [Int.toNat_natCast]
  refine ZcQ (lo:=0) (n:=n) (fun i σ H3 => ∃ (z4:Option V) (zs:List V),σ = [some (.int κ.P),some (.ref fa),some (.ref ga),some (.ref tb),z4] ∧ Same H H3 ∧ H3 tb = some (.lst zs) ∧ AllG (NR κ H3) zs ((ZfV F G).take i)) ⟨_,[],rfl,St,qt,by rw [List.take_zero]; exact .nil⟩ ?_ ?_
  · rintro i σ H3 hi ⟨z4,zs,rfl,S3,q3,e3⟩
    have lz:=e3.1
    have la:=Ze7 F G
    rw [List.length_take] at lz
    have hlt:zs.length < 1000:=by omega
    have ea:(ZfV F G).take (i + 1) = (ZfV F G).take i ++ [F.getD i 0 + G.getD i 0]:=by
      rw [List.take_succ,Zct (show i < (ZfV F G).length by omega),Zg6]; rfl
    have next:∀ (v:V) (H4:Hp),Same H3 H4 → NR κ H4 v (F.getD i 0 + G.getD i 0) → ∃ (z4:Option V) (zs':List V),[some (V.int κ.P),some (V.ref fa),some (V.ref ga),some (V.ref tb),some (V.int (0 + (i:Int)))] = [some (.int κ.P),some (.ref fa),some (.ref ga),some (.ref tb),z4] ∧ Same H (upd H4 tb (.lst (zs ++ [v]))) ∧ upd H4 tb (.lst (zs ++ [v])) tb = some (.lst zs') ∧ AllG (NR κ (upd H4 tb (.lst (zs ++ [v])))) zs' ((ZfV F G).take (i + 1)):=by
      intro v H4 S4 nv
      have q4:=S4 _ _ q3
      have O:Off [tb] H4 (upd H4 tb (.lst (zs ++ [v]))):=Ze3 (Same.refl H4)
      refine ⟨_,zs ++ [v],rfl,Off.same O (S3.trans S4) (fun z hz => by rw [List.mem_singleton.mp hz]; exact ntb),Zaf,?_⟩
      rw [ea]
      exact (e3.mono fun _ _ n => (n.same S4).off q4 O).append (.one (nv.off q4 O))
    refine ⟨_,rfl,_,rfl,fa,_,rfl,.inl (SqL.of (S3 _ _ hF)),_,_,rfl,rfl,_,rfl,?_⟩
    by_cases A:F.length ≤ i
    · obtain ⟨v,hv,nv⟩:=Zbr aG (i:=i) (by omega)
      refine Zdk (show (xs.length:Int) ≤ 0 + (i:Int) by omega) ?_
      refine ⟨_,rfl,.inl ⟨rfl,_,SqL.of q3⟩,_,rfl,_,rfl,ga,_,_,v,rfl,rfl,SqL.of (S3 _ _ hG),(by rw [Int.zero_add]; exact Za4 hv),tb,zs,_,rfl,rfl,q3,Nat.lt_of_lt_of_le hlt (by decide),next v H3 (Same.refl _) ?_⟩
      have e:F.getD i 0 + G.getD i 0 = G.getD i 0:=by rw [Zax A]; grind
      rw [e]; exact nv.same S3
    refine ZgU (show ¬ (xs.length:Int) ≤ 0 + (i:Int) by omega) ?_
    obtain ⟨vf,hvf,nvf⟩:=Zbr aF (i:=i) (by omega)
    refine ⟨_,rfl,_,rfl,ga,_,rfl,.inl (SqL.of (S3 _ _ hG)),_,_,rfl,rfl,_,rfl,?_⟩
    by_cases B:G.length ≤ i
    · refine Zdk (show (ys.length:Int) ≤ 0 + (i:Int) by omega) ?_
      refine ⟨_,rfl,.inl ⟨rfl,_,SqL.of q3⟩,_,rfl,_,rfl,fa,_,_,vf,rfl,rfl,SqL.of (S3 _ _ hF),(by rw [Int.zero_add]; exact Za4 hvf),tb,zs,_,rfl,rfl,q3,Nat.lt_of_lt_of_le hlt (by decide),next vf H3 (Same.refl _) ?_⟩
      have e:F.getD i 0 + G.getD i 0 = F.getD i 0:=by rw [Zax B]; grind
      rw [e]; exact nvf.same S3
    refine ZgU (show ¬ (ys.length:Int) ≤ 0 + (i:Int) by omega) ?_
    obtain ⟨vg,hvg,nvg⟩:=Zbr aG (i:=i) (by omega)
    refine ⟨_,rfl,.inl ⟨rfl,_,SqL.of q3⟩,_,rfl,_,rfl,_,rfl,fa,_,_,vf,rfl,rfl,SqL.of (S3 _ _ hF),(by rw [Int.zero_add]; exact Za4 hvf),_,rfl,_,rfl,ga,_,_,vg,rfl,rfl,SqL.of (S3 _ _ hG),(by rw [Int.zero_add]; exact Za4 hvg),κ,vf,vg,_,_,rfl,nvf.same S3,nvg.same S3,bF _ (List.mem_of_getElem? (Zct (by omega))),bG _ (List.mem_of_getElem? (Zct (by omega))),fun H4 v S4 nv => ?_⟩
    exact ⟨tb,zs,_,rfl,rfl,S4 _ _ q3,Nat.lt_of_lt_of_le hlt (by decide),next v H4 S4 nv⟩
  · rintro σ H3 ⟨z4,zs,rfl,S3,q3,e3⟩
    have la:=Ze7 F G
    rw [hn,← la,List.take_length] at e3
    refine ⟨_,rfl,_,rfl,κ,tb,zs,_,rfl,q3,e3,fun H4 D r S4 hD lr r0 r1 _ => ?_⟩
    exact k H4 D _ r (S3.trans S4) ⟨hD,Zbw (e3.mono fun _ _ n => n.same S4) r⟩ lr r0 r1
end
end My
namespace My
open PySem L2 PyProof.Rows
def Zms {κ:KX} (f:List κ.F):PyData:=.list (f.map κ.D)
theorem PolL.rp {κ:KX} {H:Hp} {a:Addr} {xs:List V} {f:List κ.F} (h:PolL κ H a xs f):Rp H 2 (.ref a) (Zms f):=ZgN h.l (h.al.all2 fun _ _ n => n.rp)
theorem Zkh {κ:KX} {H:Hp} {a b c:Addr} {xs ys:List V} {f g:List κ.F} (hf:PolL κ H a xs f) (hg:PolL κ H b ys g) (hc:H c = some (.lst [.ref a,.ref b])):Rp H 8 (.ref c) (.list [Zms f,Zms g]):=(ZgN hc (.cons hf.rp (.cons hg.rp .nil))).mono (by decide)
def Pl (κ:KX) (H:Hp) (v:V) (D M L:Nat):Prop:=∃ (a:Addr) (xs:List V) (f:List κ.F),v = .ref a ∧ PolL κ H a xs f ∧ Trm f ∧ f.length ≤ 60 ∧ (κ = .q → f.length ≤ L) ∧ ∀ x ∈ f,QN κ (D:Int) M x
theorem Pl.same {κ:KX} {H H':Hp} {v:V} {D M L:Nat} (h:Pl κ H v D M L) (S:Same H H'):Pl κ H' v D M L:=by
  obtain ⟨a,xs,f,e,p,r⟩:=h; exact ⟨a,xs,f,e,p.same S,r⟩
theorem Zk1 {κ:KX} {f:List κ.F} {x:κ.F} (t:Trm f) (h:1 < f.length):Trm ([x] ++ f.drop 1):=by
  have l:([x] ++ f.drop 1).length = f.length:=by rw [List.length_append,List.length_drop]; show 1 + _ = _; omega
  right
  rcases t with z | z
  · omega
  · rw [l,List.getD_eq_getElem?_getD,List.getElem?_append_right (by show 1 ≤ _; omega),List.getElem?_drop]
    rw [List.getD_eq_getElem?_getD] at z
    have:1 + (f.length - 1 - [x].length) = f.length - 1:=by show 1 + (f.length - 1 - 1) = _; omega
    rw [this]; exact z
theorem ZjN {κ:KX} {H:Hp} {xs:List V} {f:List κ.F} (h:AllG (NR κ H) xs f) (r:Nat):AllG (NR κ H) (xs.drop r) (f.drop r):=by
  obtain ⟨l,h⟩:=h
  refine ⟨by rw [List.length_drop,List.length_drop,l],fun i v d hv hd => ?_⟩
  rw [List.getElem?_drop] at hv hd
  exact h _ v d hv hd
theorem ZjO {t:Int} (h0:0 ≤ t) (h:t < 10 ^ 60) {x:Rat} (e1:x.num = t) (e2:(x.den:Int) = 1):QN .q ((144:Nat):Int) (10 ^ 63) x:=by
  have ex:x = Rat.divInt t 1:=by rw [← e1,← e2,Rat.num_divInt_den]
  refine ⟨t * 144,?_,?_⟩
  · show x = _
    rw [ex,Rat.divInt_eq_divInt_iff (by decide) (by decide)]
    show t * 144 = t * 144 * 1
    omega
  · have:(t * 144).natAbs ≤ 10 ^ 60 * 144:=by
      rw [Int.natAbs_mul]
      exact Nat.mul_le_mul_right 144 (by omega)
    exact Nat.le_trans this (by decide)
end My
namespace My
open PySem L2 PyProof.Rows
section
variable {κ:KX}
theorem ZlR {D:Nat} {M:Nat} {x:κ.F} (h:QN κ (D:Int) M x) (hD:0 < D) (bD:D < 2 ^ 3000) (bM:M < 2 ^ 3000):B1 κ x:=h.b1 (by omega) (by rw [Int.natAbs_natCast]; exact bD) bM
structure PolN (F:List κ.F):Prop where
  t:Trm F
  l:F.length ≤ 5
  s:∀ x ∈ F,QN κ ((144:Nat):Int) (10 ^ 63) x
theorem PolN.b1 {F:List κ.F} (h:PolN F):∀ x ∈ F,B1 κ x:=fun x hx => ZlR (h.s x hx) (by decide) (by decide +kernel) (by decide +kernel)
theorem Zeg {F G:List κ.F} (hF:Trm F) (hG:Trm G) (e:sr F = sr G):F = G:=ZiH hF hG fun k => Zmq e k
theorem Zmt (a:Sr κ):cn (Km1 κ) * a = 0 - a:=Rg.Ps.ext fun k => by
  rw [ZiL,Rg.Ps.c_sub,Rg.Ps.c_zero]
  generalize a.c k = z
  exact ZjA z
theorem Zc9 (F G:List κ.F):sr (ZcB F G F.length 0) = sr F * sr G:=Rg.Ps.ext fun k => by
  rw [Zkb,Zfh]
  by_cases h:k < F.length + G.length
  · rw [ZgX h]
    show pO F G F.length k + 0 = _
    generalize pO F G F.length k = z
    grind
  · rw [Zax (by rw [ZaW]; omega),ZiE (by omega)]
theorem Zg8 (F G:List κ.F):sr (ZfV F G) = sr F + sr G:=Rg.Ps.ext fun k => by rw [Rg.Ps.c_add,Zfh,Zfh,Zfh,Zg6]
end
def PvN (H:Hp) (rs:List Addr) (i:Nat) (H':Hp):Prop:=Off rs H H' ∧ ∀ (j:Nat) a,i ≤ j → rs[j]? = some a → H' a = H a
theorem Zmu {H:Hp} {rs:List Addr}:PvN H rs 0 H:=⟨fun _ _ _ q => q,fun _ _ _ _ => rfl⟩
theorem ZjP {H H':Hp} {rs:List Addr} {i:Nat} {a:Addr} {o:HO} (nd:rs.Nodup) (ha:rs[i]? = some a) (e:PvN H rs i H'):PvN H rs (i + 1) (upd H' a o):=by
  obtain ⟨O,g⟩:=e
  refine ⟨fun b o nb q => ?_,fun j b hj hb => ?_⟩
  · rw [Zat (fun z => nb (by rw [z]; exact List.mem_of_getElem? ha))]
    exact O b o nb q
  · have nba:b ≠ a:=fun z => by
      have:=Zio nd (by rw [← z]; exact hb) ha
      omega
    rw [Zat nba]
    exact g j b (by omega) hb
theorem Zda {κ:KX}:K1 κ ≠ 0:=fun z => Fd.zne z.symm
def Zeh:Sp:=fun vs H Q _ => ∃ (κ:KX) (a b:Addr) (xs ys:List V) (F:List κ.F),vs = [.int κ.P,.ref a,.ref b] ∧ PolL κ H a xs F ∧ PolL κ H b ys F ∧ Trm F ∧ ∀ H',Same H H' → Q (.bl true) H'
def ZbM (cN:Addr):Sp:=fun vs H Q _ => ∃ e:Addr,vs = [.ref e] ∧ H e = some (Zlu e cN none) ∧ Q (.bl true) H
def Zds (CP CF CR:Addr):Sp:=fun vs H Q _ => ∃ (κ:KX) (s ga:Addr) (ys:List V) (G:List κ.F),vs = [.ref s,.ref ga] ∧ PoA CP CF CR κ H s ∧ PolL κ H ga ys G ∧ G.length ≠ 1 ∧ ∀ H',Same H H' → Q (.bl true) H'
def Zdb (CP CF CR:Addr):Sp:=fun vs H Q _ => ∃ (κ:KX) (s fa ga:Addr) (xs ys:List V) (F G:List κ.F),vs = [.ref s,.ref fa,.ref ga] ∧ PoA CP CF CR κ H s ∧ PolL κ H fa xs F ∧ PolL κ H ga ys G ∧ G.length ≠ 1 ∧ ∀ H',Same H H' → Q (.bl true) H'
def Zdc (CP CF CR:Addr):Sp:=fun vs H Q _ => ∃ (κ:KX) (s:Addr) (t b:Int) (x:κ.F),vs = [.ref s,.int t,.int b] ∧ PoA CP CF CR κ H s ∧ NumV κ t x ∧ NumV κ b 0 ∧ b.natAbs ≤ 10 ^ 100 ∧ ∀ H',Same H H' → Q (.bl true) H'
def ZfR (CP CF CR:Addr):Sp:=fun vs H Q _ => ∃ (κ:KX) (s fa ga:Addr) (xs ys:List V) (F G:List κ.F),vs = [.ref s,.int κ.P,.ref fa,.ref ga] ∧ PoA CP CF CR κ H s ∧ PolL κ H fa xs F ∧ PolL κ H ga ys G ∧ PolN F ∧ PolN G ∧ ∀ H',Same H H' → Q (.bl true) H'
end My
namespace My
open PySem L2 PyProof.Rows
section
variable {P:Program} {w:World} {K:PySem.W.Frag} {mg:Str → Option Value} {base:Heap} {CP CF CR CE cK cN cF cT cI cX cM cR:Addr}
theorem Zi2:FnScope ["_law_prime_here", "_law_found", "_law_due"] ["_law_prime_here", "_law_found", "_law_due"] (Zag ZeW):=⟨rfl,rfl,rfl,by decide +kernel,rfl,by decide +kernel,by decide +kernel⟩
theorem Zi3 (h:Here K mg "_law_same" ZeW) (h_l_is_poly:Has P w K mg base "_law_is_poly" 3 ["_law_prime_here", "_law_found"] ZbL):Has P w K mg base "_law_same" 4 ["_law_prime_here", "_law_found", "_law_due"] Zeh:=by
  refine h.has (fun f fd F => F.binds fun _ _ _ _ _ _ us hl => by obtain ⟨_,_,_,rfl⟩:=Zdv hl; exact rfl) fun f fd F => F.ok Zi2 (fun vs H Q E h => ?_) (fun cdv A outer s H vs Q E hr h => ?_)
  · obtain ⟨_,_,_,_,_,_,rfl,_⟩:=h
    rfl
  obtain ⟨κ,a,b,xs,ys,F,rfl,pa,pb,tF,k⟩:=h
  refine ⟨_,(Zae (Zai (Zca (Zam h_l_is_poly hr (by rfl) (Zaa (pv 0) (Zaa (pv 1) Zab))) (ZbG (ZaR (Zij hr) (pv 1) (pv 2) (Zan _)))))),?_⟩
  exact ⟨_,rfl,_,rfl,κ,a,xs,F,rfl,pa,tF,fun H1 S1 => ⟨_,rfl,Zei ⟨_,rfl,_,rfl,_,(pa.same S1).rp.mono (by decide),(pb.same S1).rp.mono (by decide),k H1 S1⟩⟩⟩
theorem ZhF:FnScope ["_law_e"] ["_law_e"] (Zag ZdW):=⟨rfl,rfl,rfl,by decide +kernel,rfl,by decide +kernel,by decide +kernel⟩
theorem ZfS (h:Here K mg "_law_right" ZdW) (T:Nm mg) (R:Rf K mg CE cK cN cF cT cI cX cM cR) (Z:Rz K mg "NoNumber" CE cN [cK,cF,cT,cI,cX,cM,cR]):Has P w K mg base "_law_right" 1 ["_law_e"] (ZbM cN):=by
  refine h.has (fun f fd F => F.binds fun _ _ _ _ _ _ us hl => by obtain ⟨_,rfl⟩:=Zjl hl; exact rfl) fun f fd F => F.ok ZhF (fun vs H Q E h => ?_) (fun cdv A outer s H vs Q E hr h => ?_)
  · obtain ⟨_,rfl,_⟩:=h
    rfl
  obtain ⟨e,rfl,he,k⟩:=h
  refine ⟨_,(Zad (ZaC (ZbW (ZaD (Zak Zau (by rfl) T.isinstance boot_isinstance (Zaa (pv 0) (Zaa (Zbl (v:=.ref cK) (by rfl) R.k.m rfl) Zab)))) (ZbW (ZaD (Zak Zau (by rfl) T.isinstance boot_isinstance (Zaa (pv 0) (Zaa (Zbl (v:=.ref cF) (by rfl) R.f.m rfl) Zab)))) (ZbW (ZaD (Zak Zau (by rfl) T.isinstance boot_isinstance (Zaa (pv 0) (Zaa (Zbl (v:=.ref cT) (by rfl) R.t.m rfl) Zab)))) (ZbF (ZaD (Zak Zau (by rfl) T.isinstance boot_isinstance (Zaa (pv 0) (Zaa (Zbl (v:=.ref cI) (by rfl) R.i.m rfl) Zab)))))))).pt (Zae (Zai ZaX)) Zao)
    (Zad (ZaC (ZbW (ZaD (Zak Zau (by rfl) T.isinstance boot_isinstance (Zaa (pv 0) (Zaa (Zbl (v:=.ref cX) (by rfl) R.x.m rfl) Zab)))) (ZbW (ZaD (Zak Zau (by rfl) T.isinstance boot_isinstance (Zaa (pv 0) (Zaa (Zbl (v:=.ref cM) (by rfl) R.m.m rfl) Zab)))) (ZbF (ZaD (Zak Zau (by rfl) T.isinstance boot_isinstance (Zaa (pv 0) (Zaa (Zbl (v:=.ref cR) (by rfl) R.r.m rfl) Zab))))))).pt (Zae (Zai ZaX)) Zao)
    (Zae (Zai (Zca (Zak Zau (by rfl) T.isinstance boot_isinstance (Zaa (pv 0) (Zaa (Zbl (v:=.ref cN) (by rfl) R.n.m rfl) Zab))) (ZbG (Zak Zau (by rfl) T.isinstance boot_isinstance (Zaa (pv 0) (Zaa (Zdu (by rfl) R.ve PyProof.Rows.Boot.«ValueError») Zab))))))))),?_⟩
  obtain ⟨oK,oF,oT,oI,oX,oM,oR,_⟩:=Z.o
  have hx:TyX K H (.ref e) (.ref cN):=.exc he Z.c.cls
  refine ⟨_,rfl,_,_,_,_,rfl,hx,.ref (R.k.no oK),_,rfl,ZbE ?_⟩
  refine ⟨_,rfl,_,_,_,_,rfl,hx,.ref (R.f.no oF),_,rfl,ZbE ?_⟩
  refine ⟨_,rfl,_,_,_,_,rfl,hx,.ref (R.t.no oT),_,rfl,ZbE ?_⟩
  refine ⟨_,rfl,_,_,_,_,rfl,hx,.ref (R.i.no oI),_,rfl,ZbE ?_⟩
  refine ⟨_,rfl,_,_,_,_,rfl,hx,.ref (R.x.no oX),_,rfl,ZbE ?_⟩
  refine ⟨_,rfl,_,_,_,_,rfl,hx,.ref (R.m.no oM),_,rfl,ZbE ?_⟩
  refine ⟨_,rfl,_,_,_,_,rfl,hx,.ref (R.r.no oR),_,rfl,ZbE ?_⟩
  refine ⟨_,rfl,_,_,_,_,rfl,hx,.ref ZgM,_,rfl,Zei ?_⟩
  exact ⟨_,rfl,_,_,_,_,rfl,hx,.ty (Zmg K Z.v),k⟩
theorem sc_l_no_back:FnScope ["_law_polys", "_law_g", "_law_got", "_law_e"] ["_law_polys", "_law_g"] (Zag ZcM):=⟨rfl,rfl,rfl,by decide +kernel,rfl,by decide +kernel,by decide +kernel⟩
theorem ZfT (h:Here K mg "_law_no_back" ZcM) (R:Rf K mg CE cK cN cF cT cI cX cM cR) (Z:Rz K mg "NoNumber" CE cN [cK,cF,cT,cI,cX,cM,cR]) (pc:Pc K mg CP) (hB:HasMX P w K mg base CP "back" 6 ["self", "one"] [] (ZdC CP CF CR cN)) (h_l_right:Has P w K mg base "_law_right" 6 ["_law_e"] (ZbM cN)):Has P w K mg base "_law_no_back" 7 ["_law_polys", "_law_g"] (Zds CP CF CR):=by
  refine h.has (fun f fd F => F.binds fun _ _ _ _ _ _ us hl => by obtain ⟨_,_,rfl⟩:=Zdg hl; exact rfl) fun f fd F => F.ok sc_l_no_back (fun vs H Q E h => ?_) (fun cdv A outer s H vs Q E hr h => ?_)
  · obtain ⟨_,_,_,_,_,rfl,_⟩:=h
    rfl
  obtain ⟨κ,po,ga,ys,G,rfl,⟨dxp,sk,hpo,hk⟩,pG,nG,k⟩:=h
  have nd:=sc_l_no_back.nd
  refine ⟨_,(Zad (Zas (i:=2) nd rfl (Or.inl rfl) ZdE)
    (Zad (Zid R.cat nd (i:=3) rfl rfl (by rfl) (by exact fun E pn xe hp => (Zae (Zcd (ZaL (pv 0) hp hr (Zaa (pv 1) Zab))))) (by exact fun e => (Zae (Zas (i:=2) nd rfl (Or.inl rfl) (pv 3)))))
    (Zae (Zai (Zam h_l_right hr (by rfl) (Zaa (pv 2) Zab)))))),?_⟩
  intro pn xe
  refine ⟨_,rfl,po,CP,dxp,_,_,_,_,rfl,hpo,pc.cl,hB,rfl,_,rfl,κ,po,ga,ys,G,rfl,⟨dxp,sk,hpo,hk⟩,pG,(fun _ => ?_),(fun g e => absurd (by rw [e]; rfl) nG)⟩
  refine ⟨cN,rfl,Z.e,fun e he => ?_⟩
  exact ⟨_,rfl,_,rfl,e,rfl,Zaf,k _ (Zah he _)⟩
theorem sc_l_not_over:FnScope ["_law_polys", "_law_f", "_law_g", "_law_got", "_law_e"] ["_law_polys", "_law_f", "_law_g"] (Zag Zcr):=⟨rfl,rfl,rfl,by decide +kernel,rfl,by decide +kernel,by decide +kernel⟩
theorem Zfd (h:Here K mg "_law_not_over" Zcr) (R:Rf K mg CE cK cN cF cT cI cX cM cR) (Z:Rz K mg "NoNumber" CE cN [cK,cF,cT,cI,cX,cM,cR]) (pc:Pc K mg CP) (hO:HasMX P w K mg base CP "over" 6 ["self", "one", "other"] [] (ZdD CP CF CR cN)) (h_l_right:Has P w K mg base "_law_right" 6 ["_law_e"] (ZbM cN)):Has P w K mg base "_law_not_over" 7 ["_law_polys", "_law_f", "_law_g"] (Zdb CP CF CR):=by
  refine h.has (fun f fd F => F.binds fun _ _ _ _ _ _ us hl => by obtain ⟨_,_,_,rfl⟩:=Zdv hl; exact rfl) fun f fd F => F.ok sc_l_not_over (fun vs H Q E h => ?_) (fun cdv A outer s H vs Q E hr h => ?_)
  · obtain ⟨_,_,_,_,_,_,_,_,rfl,_⟩:=h
    rfl
  obtain ⟨κ,po,fa,ga,xs,ys,F,G,rfl,⟨dxp,sk,hpo,hk⟩,pF,pG,nG,k⟩:=h
  have nd:=sc_l_not_over.nd
  refine ⟨_,(Zad (Zas (i:=3) nd rfl (Or.inl rfl) ZdE)
    (Zad (Zid R.cat nd (i:=4) rfl rfl (by rfl) (by exact fun E pn xe hp => (Zae (Zcd (ZaL (pv 0) hp hr (Zaa (pv 1) (Zaa (pv 2) Zab)))))) (by exact fun e => (Zae (Zas (i:=3) nd rfl (Or.inl rfl) (pv 4)))))
    (Zae (Zai (Zam h_l_right hr (by rfl) (Zaa (pv 3) Zab)))))),?_⟩
  intro pn xe
  refine ⟨_,rfl,po,CP,dxp,_,_,_,_,rfl,hpo,pc.cl,hO,rfl,_,rfl,_,rfl,κ,po,fa,ga,xs,ys,F,G,rfl,⟨dxp,sk,hpo,hk⟩,pF,pG,(fun _ H1 S1 => ?_),(fun g e => absurd (by rw [e]; rfl) nG)⟩
  refine ⟨cN,rfl,Z.e,fun e he => ?_⟩
  exact ⟨_,rfl,_,rfl,e,rfl,Zaf,k _ (S1.trans (Zah he _))⟩
theorem sc_l_not_made:FnScope ["_law_polys", "_law_top", "_law_bottom", "_law_got", "_law_e"] ["_law_polys", "_law_top", "_law_bottom"] (Zag Zcs):=⟨rfl,rfl,rfl,by decide +kernel,rfl,by decide +kernel,by decide +kernel⟩
theorem Zfe (h:Here K mg "_law_not_made" Zcs) (R:Rf K mg CE cK cN cF cT cI cX cM cR) (Z:Rz K mg "NoNumber" CE cN [cK,cF,cT,cI,cX,cM,cR]) (pc:Pc K mg CP) (hN:HasMX P w K mg base CP "number" 6 ["self", "top", "bottom"] [] (Zbg CP CF CR cN)) (h_l_right:Has P w K mg base "_law_right" 6 ["_law_e"] (ZbM cN)):Has P w K mg base "_law_not_made" 7 ["_law_polys", "_law_top", "_law_bottom"] (Zdc CP CF CR):=by
  refine h.has (fun f fd F => F.binds fun _ _ _ _ _ _ us hl => by obtain ⟨_,_,_,rfl⟩:=Zdv hl; exact rfl) fun f fd F => F.ok sc_l_not_made (fun vs H Q E h => ?_) (fun cdv A outer s H vs Q E hr h => ?_)
  · obtain ⟨_,_,_,_,_,rfl,_⟩:=h
    rfl
  obtain ⟨κ,po,t,b,x,rfl,⟨dxp,sk,hpo,hk⟩,nx,ny,bb,k⟩:=h
  have nd:=sc_l_not_made.nd
  refine ⟨_,(Zad (Zas (i:=3) nd rfl (Or.inl rfl) ZdE)
    (Zad (Zid R.cat nd (i:=4) rfl rfl (by rfl) (by exact fun E pn xe hp => (Zae (Zcd (ZaL (pv 0) hp hr (Zaa (pv 1) (Zaa (pv 2) Zab)))))) (by exact fun e => (Zae (Zas (i:=3) nd rfl (Or.inl rfl) (pv 4)))))
    (Zae (Zai (Zam h_l_right hr (by rfl) (Zaa (pv 3) Zab)))))),?_⟩
  intro pn xe
  refine ⟨_,rfl,po,CP,dxp,_,_,_,_,rfl,hpo,pc.cl,hN,rfl,_,rfl,_,rfl,κ,po,t,b,x,0,rfl,⟨dxp,sk,hpo,hk⟩,nx,ny,bb,(fun _ => ?_),(fun z => absurd rfl z)⟩
  refine ⟨cN,rfl,Z.e,fun e he => ?_⟩
  exact ⟨_,rfl,_,rfl,e,rfl,Zaf,k _ (Zah he _)⟩
end
end My
namespace My
open PySem L2 PyProof.Rows
section
variable {P:Program} {w:World} {K:PySem.W.Frag} {mg:Str → Option Value} {base:Heap} {CP CF CR cN:Addr}
theorem sc_l_sums:FnScope ["_law_polys", "_law_prime_here", "_law_f", "_law_g", "_law_less", "_law_told"] ["_law_polys", "_law_prime_here", "_law_f", "_law_g"] (Zag ZeX):=⟨rfl,rfl,rfl,by decide +kernel,rfl,by decide +kernel,by decide +kernel⟩
theorem Zi4 (h:Here K mg "_law_sums" ZeX) (T:Nm mg) (pc:Pc K mg CP) (hP:HasM P w K mg base CP "plus" 6 ["self", "one", "other"] [] (Ze8 CP CF CR)) (hM:HasM P w K mg base CP "minus" 6 ["self", "one", "other"] [] (ZfM CP CF CR)) (hT:HasM P w K mg base CP "times" 6 ["self", "one", "other"] [] (Zeb CP CF CR)) (hO:HasMX P w K mg base CP "over" 6 ["self", "one", "other"] [] (ZdD CP CF CR cN)) (h_l_make:Has P w K mg base "_law_make" 6 ["_law_prime_here", "_law_number_here"] Za2) (h_l_poly_plus:Has P w K mg base "_law_poly_plus" 6 ["_law_prime_here", "_law_f", "_law_g"] ZcF) (h_l_poly_times:Has P w K mg base "_law_poly_times" 6 ["_law_prime_here", "_law_f", "_law_g"] Za9) (h_l_same:Has P w K mg base "_law_same" 6 ["_law_prime_here", "_law_found", "_law_due"] Zeh):Has P w K mg base "_law_sums" 7 ["_law_polys", "_law_prime_here", "_law_f", "_law_g"] (ZfR CP CF CR):=by
  refine h.has (fun f fd F => F.binds fun _ _ _ _ _ _ us hl => by obtain ⟨_,_,_,_,rfl⟩:=Zlv hl; exact rfl) fun f fd F => F.ok sc_l_sums (fun vs H Q E h => ?_) (fun cdv A outer s H vs Q E hr h => ?_)
  · obtain ⟨_,_,_,_,_,_,_,_,rfl,_⟩:=h
    rfl
  obtain ⟨κ,po,fa,ga,xs,ys,F',G,rfl,⟨dxp,sk,hpo,hk⟩,pF,pG,nF,nG,k⟩:=h
  have nd:=sc_l_sums.nd
  refine ⟨_,(Zad (Zas (i:=4) nd rfl (Or.inl rfl) (Zam h_l_poly_times hr (by rfl) (Zaa (pv 1) (Zaa (ZaJ (Zaa (Zam h_l_make hr (by rfl) (Zaa (pv 1) (Zaa (ZeH ZcR Zac) Zab))) Zab)) (Zaa (pv 3) Zab)))))
    (Zad (ZaC (ZaN (ZaD (Zam h_l_same hr (by rfl) (Zaa (pv 1) (Zaa (ZaA (pv 0) hr (Zaa (pv 2) (Zaa (pv 3) Zab))) (Zaa (Zam h_l_poly_plus hr (by rfl) (Zaa (pv 1) (Zaa (pv 2) (Zaa (pv 3) Zab)))) Zab)))))) (Zae (Zai ZaX)) Zao)
    (Zad (ZaC (ZaN (ZaD (Zam h_l_same hr (by rfl) (Zaa (pv 1) (Zaa (ZaA (pv 0) hr (Zaa (pv 2) (Zaa (pv 3) Zab))) (Zaa (Zam h_l_poly_plus hr (by rfl) (Zaa (pv 1) (Zaa (pv 2) (Zaa (pv 4) Zab)))) Zab)))))) (Zae (Zai ZaX)) Zao)
    (Zad (ZcD PassesOwn.never rfl (ZcH (ZaJ (Zaa (ZaA (pv 0) hr (Zaa (pv 2) (Zaa (ZaJ Zab) Zab))) (Zaa (ZaA (pv 0) hr (Zaa (pv 2) (Zaa (ZaJ (Zaa (Zam h_l_make hr (by rfl) (Zaa (pv 1) (Zaa Zac Zab))) Zab)) Zab))) (Zaa (ZaL (pv 0) ZeQ hr (Zaa (pv 2) (Zaa (ZaJ (Zaa (Zam h_l_make hr (by rfl) (Zaa (pv 1) (Zaa Zac Zab))) Zab)) Zab))) Zab))))) (ZaH (i:=5) nd rfl (Or.inl rfl)) (Zae (Zcd (ZhZ PySem.F.plainAttrs_list PySem.F.slot_list_append PySem.F.type_list_append Zcf (pv 5) (Zaa ZdE Zab)))))
    (Zad (ZaC (Zap (Zik hr) (ZaA (pv 0) hr (Zaa (pv 2) (Zaa (ZbC Za1 (by rfl) T.list boot_list (Zaa (pv 2) Zab)) Zab))) (ZaJ Zab) (Zan _)) (Zae (Zai ZaX)) Zao)
    (Zae (Zai (Zam h_l_same hr (by rfl) (Zaa (pv 1) (Zaa (ZaA (pv 0) hr (Zaa (pv 2) (Zaa (pv 3) Zab))) (Zaa (Zam h_l_poly_times hr (by rfl) (Zaa (pv 1) (Zaa (pv 2) (Zaa (pv 3) Zab)))) Zab))))))))))),?_⟩
  have poa:∀ {H2},Same H H2 → PoA CP CF CR κ H2 po:=fun {H2} S => ⟨dxp,sk,S _ _ hpo,hk.same S⟩
  have lF:=nF.l
  have lG:=nG.l
  have c0:(10 ^ 63:Nat) < 2 ^ 3000:=by decide +kernel
  have c1:(1:Nat) < 2 ^ 3000:=by decide +kernel
  have c2:(144:Nat) < 2 ^ 3000:=by decide +kernel
  have c3:(1 * (5 * (1 * 10 ^ 63)):Nat) < 2 ^ 3000:=by decide +kernel
  have c4:(5 * (5 * (10 ^ 63 * 10 ^ 63)):Nat) < 2 ^ 3000:=by decide +kernel
  have c5:(144 * 144:Nat) < 2 ^ 3000:=by decide +kernel
  have qm:∀ x ∈ [Km1 κ],QN κ 1 1 x:=fun x hx => by rw [List.mem_singleton.mp hx]; exact QN.neg ZiC
  have q1:∀ x ∈ [K1 κ],QN κ ((1:Nat):Int) 1 x:=fun x hx => by rw [List.mem_singleton.mp hx]; exact ZiC
  refine ⟨_,rfl,_,rfl,_,rfl,κ,-1,Km1 κ,rfl,ZlI,fun H1 vm S1 nm => ⟨(by show 1 ≤ sizeLine; decide),fun ma nma => ?_⟩⟩
  have Sm:=Zah nma (.lst [vm])
  have pm:PolL κ (upd H1 ma (.lst [vm])) ma [vm] [Km1 κ]:=⟨Zaf,.one (nm.same Sm)⟩
  generalize upd H1 ma (.lst [vm]) = H2 at *
  have S02:=S1.trans Sm
  have pG2:=pG.same S02
  refine ⟨_,rfl,κ,ma,ga,[vm],ys,[Km1 κ],G,1,144,1,10 ^ 63,rfl,pm.l,pG2.l,pm.al,pG2.al,(by show 1 ≤ 100; decide),by omega,qm,nG.s,by decide,by decide,⟨c1,c2,c1,c0,c2⟩,Nat.lt_of_le_of_lt (Nat.mul_le_mul_left _ (Nat.mul_le_mul_right _ lG)) c3,fun H3 la ls r0 S3 hla aL l0 y0 n0 nla => ?_⟩
  have S03:=S02.trans S3
  have bL:∀ x ∈ (ZcB [Km1 κ] G [Km1 κ].length 0).take r0,B1 κ x:=fun x hx =>
    QN.b1 (D:=1 * 144) (by decide) (show ((1:Int) * 144).natAbs < 2 ^ 3000 from c2) (Nat.lt_of_le_of_lt (Nat.mul_le_mul_left _ (Nat.mul_le_mul_right _ lG)) c3) (Zjy (D:=1) (E:=144) (M:=1) (N:=10 ^ 63) (by decide) qm nG.s x (List.mem_of_mem_take hx))
  have eL:sr ((ZcB [Km1 κ] G [Km1 κ].length 0).take r0) = 0 - sr G:=by rw [ZbR y0,Zc9]; exact Zmt _
  have lL:((ZcB [Km1 κ] G [Km1 κ].length 0).take r0).length ≤ 10:=by
    have:=ZaW [Km1 κ] G [Km1 κ].length 0
    rw [List.length_take,this]
    show min r0 (1 + G.length) ≤ 10
    omega
  generalize (ZcB [Km1 κ] G [Km1 κ].length 0).take r0 = L at *
  refine ⟨_,rfl,_,rfl,po,CP,dxp,_,_,_,_,rfl,S03 _ _ hpo,pc.cl,hP,rfl,_,rfl,_,rfl,κ,po,fa,ga,xs,ys,F',G,rfl,poa S03,pF.same S03,pG.same S03,by omega,by omega,nF.b1,nG.b1,fun H4 R1 z1 T1 S4 nR1 pT1 tT1 eT1 lT1 => ?_⟩
  have S04:=S03.trans S4
  refine ⟨_,rfl,_,rfl,_,rfl,κ,fa,ga,xs,ys,F',G,rfl,pF.same S04,pG.same S04,by omega,by omega,nF.b1,nG.b1,fun H5 R2 z2 r1 S5 psum l3 y3 n3 => ?_⟩
  rw [show (ZfV F' G).take r1 = T1 from Zeg (Za0 l3 n3) tT1 (by rw [ZbR y3,Zg8,eT1])] at psum
  refine ⟨κ,R1,R2,z1,z2,T1,rfl,pT1.same S5,psum,tT1,fun H6 S6 => ⟨_,rfl,ZbE ?_⟩⟩
  have S36:=S4.trans (S5.trans S6)
  have S06:=S03.trans S36
  clear S4 S5 S6 S04 psum pT1 l3 y3 n3
  refine ⟨_,rfl,_,rfl,po,CP,dxp,_,_,_,_,rfl,S06 _ _ hpo,pc.cl,hM,rfl,_,rfl,_,rfl,κ,po,fa,ga,xs,ys,F',G,rfl,poa S06,pF.same S06,pG.same S06,by omega,by omega,nF.b1,nG.b1,fun H7 R3 z3 T3 S7 nR3 pT3 tT3 eT3 lT3 => ?_⟩
  have S07:=S06.trans S7
  refine ⟨_,rfl,_,rfl,_,rfl,κ,fa,la,xs,ls,F',L,rfl,pF.same S07,⟨(S36.trans S7) _ _ hla,aL.mono fun _ _ n => n.same (S36.trans S7)⟩,by omega,by omega,nF.b1,bL,fun H8 R4 z4 r2 S8 psum l3 y3 n3 => ?_⟩
  rw [show (ZfV F' L).take r2 = T3 from Zeg (Za0 l3 n3) tT3 (by
    rw [ZbR y3,Zg8,eT3,eL]
    generalize sr F' = f
    generalize sr G = g
    grind)] at psum
  refine ⟨κ,R3,R4,z3,z4,T3,rfl,pT3.same S8,psum,tT3,fun H9 S9 => ⟨_,rfl,ZbE ?_⟩⟩
  have S09:=S07.trans (S8.trans S9)
  clear S7 S8 S9 S07 psum pT3 l3 y3 n3 S36 S06 aL hla nla S03 S3
  refine ⟨_,rfl,po,CP,dxp,_,_,_,_,rfl,S09 _ _ hpo,pc.cl,hP,rfl,_,rfl,(by show 0 ≤ sizeLine; decide),fun e0 ne0 => ?_⟩
  have Se0:=Zah ne0 (.lst [])
  have pe0:PolL κ (upd H9 e0 (.lst [])) e0 [] ([]:List κ.F):=⟨Zaf,.nil⟩
  generalize upd H9 e0 (.lst []) = Ha at *
  have S0a:=S09.trans Se0
  refine ⟨κ,po,fa,e0,xs,[],F',[],rfl,poa S0a,pF.same S0a,pe0,by omega,(by show 0 ≤ 90; decide),nF.b1,(fun x h => nomatch h),fun Hb Q1 u1 U1 Sb nQ1 pU1 tU1 eU1 lU1 => ?_⟩
  have S0b:=S0a.trans Sb
  refine ⟨_,rfl,po,CP,dxp,_,_,_,_,rfl,S0b _ _ hpo,pc.cl,hT,rfl,_,rfl,_,rfl,κ,1,1,rfl,Zgj,fun Hc v1 Sc n1 => ⟨(by show 1 ≤ sizeLine; decide),fun o1 no1 => ?_⟩⟩
  have So1:=Zah no1 (.lst [v1])
  have po1:PolL κ (upd Hc o1 (.lst [v1])) o1 [v1] [K1 κ]:=⟨Zaf,.one (n1.same So1)⟩
  generalize upd Hc o1 (.lst [v1]) = Hd at *
  have Sbd:=Sc.trans So1
  have S0d:=S0b.trans Sbd
  refine ⟨κ,po,fa,o1,xs,[v1],F',[K1 κ],144,1,10 ^ 63,1,rfl,poa S0d,pF.same S0d,po1,by omega,(by show 1 ≤ 90; decide),nF.s,q1,by decide,by decide,by decide,by decide,by decide,by decide,fun He Q2 u2 U2 Se nQ2 pU2 tU2 eU2 lU2 => ?_⟩
  have Sbe:=Sbd.trans Se
  have S0e:=S0b.trans Sbe
  refine ⟨_,rfl,po,CP,dxp,_,_,_,_,rfl,S0e _ _ hpo,pc.cl,hO,rfl,_,rfl,_,rfl,κ,1,1,rfl,Zgj,fun Hf v2 Sf n2 => ⟨(by show 1 ≤ sizeLine; decide),fun o2 no2 => ?_⟩⟩
  have So2:=Zah no2 (.lst [v2])
  have po2:PolL κ (upd Hf o2 (.lst [v2])) o2 [v2] [K1 κ]:=⟨Zaf,.one (n2.same So2)⟩
  generalize upd Hf o2 (.lst [v2]) = Hg at *
  have Seg:=Sf.trans So2
  have S0g:=S0e.trans Seg
  have inv1:Fd.inv (K1 κ) = K1 κ:=by
    have m:(1:κ.F) * Fd.inv (K1 κ) = 1:=Fd.mul_inv (K1 κ) Zda
    show Fd.inv (K1 κ) = (1:κ.F)
    generalize Fd.inv (K1 κ) = z at *
    grind
  refine ⟨κ,po,fa,o2,xs,[v2],F',[K1 κ],rfl,poa S0g,pF.same S0g,po2,(fun z => absurd rfl z),fun g eg => ?_⟩
  obtain rfl:K1 κ = g:=by cases eg; rfl
  refine ⟨Zda,by omega,144,1,10 ^ 63,1,nF.s,by rw [inv1]; exact ZiC,by decide,by decide,by decide,by decide,by decide,by decide,fun Hh Q3 u3 U3 Sh nQ3 pU3 tU3 eU3 lU3 => ⟨(by show 3 ≤ sizeLine; decide),fun ll nll => ?_⟩⟩
  have Seh:=Seg.trans Sh
  have Sbh:=Sbe.trans Seh
  have S0h:=S0b.trans Sbh
  have Sll:=Zah nll (.lst [.ref Q1,.ref Q2,.ref Q3])
  have qll:=Zaf (H:=Hh) (a:=ll) (o:=.lst [.ref Q1,.ref Q2,.ref Q3])
  generalize upd Hh ll (.lst [.ref Q1,.ref Q2,.ref Q3]) = Hi at *
  have S0i:=S0h.trans Sll
  have p1i:=pU1.same (Sbh.trans Sll)
  have p2i:=pU2.same (Seh.trans Sll)
  have p3i:=pU3.same Sll
  have f1:H Q1 = none:=S0a.free nQ1
  have f2:H Q2 = none:=S0d.free nQ2
  have f3:H Q3 = none:=S0g.free nQ3
  have n12:Q1 ≠ Q2:=fun z => by rw [← z,Sbd _ _ pU1.l] at nQ2; cases nQ2
  have n13:Q1 ≠ Q3:=fun z => by rw [← z,(Sbe.trans Seg) _ _ pU1.l] at nQ3; cases nQ3
  have n23:Q2 ≠ Q3:=fun z => by rw [← z,Seg _ _ pU2.l] at nQ3; cases nQ3
  have lst:∀ a ∈ [Q1,Q2,Q3],H a = none ∧ ∃ us,Hi a = some (.lst us) ∧ us.length < 1000:=fun a ha => by
    rcases List.mem_cons.mp ha with rfl | ha
    · exact ⟨f1,u1,p1i.l,by have:=p1i.al.1; have:U1.length ≤ max F'.length 0:=lU1; omega⟩
    rcases List.mem_cons.mp ha with rfl | ha
    · exact ⟨f2,u2,p2i.l,by have:=p2i.al.1; have:U2.length ≤ F'.length + 1 - 1:=lU2; omega⟩
    rw [List.mem_singleton.mp ha]; exact ⟨f3,u3,p3i.l,by have:=p3i.al.1; omega⟩
  have nodup:[Q1,Q2,Q3].Nodup:=by
    refine List.nodup_cons.mpr ⟨fun z => ?_,List.nodup_cons.mpr ⟨fun z => n23 (List.mem_singleton.mp z),List.nodup_cons.mpr ⟨fun z => (nomatch z),List.nodup_nil⟩⟩⟩
    rcases List.mem_cons.mp z with z | z
    · exact n12 z
    · exact n13 (List.mem_singleton.mp z)
  have lln:ll ∉ [Q1,Q2,Q3]:=fun z => by
    rcases List.mem_cons.mp z with z | z
    · rw [z,(Sbh _ _ pU1.l)] at nll; cases nll
    rcases List.mem_cons.mp z with z | z
    · rw [z,(Seh _ _ pU2.l)] at nll; cases nll
    · rw [List.mem_singleton.mp z,pU3.l] at nll; cases nll
  refine ⟨ll,rfl,⟨_,SqL.of qll⟩,?_⟩
  refine ZcP (xs:=[Q1,Q2,Q3].map V.ref) (fun j σ Hx => ∃ z5:Option V,σ = [some (.ref po),some (.int κ.P),some (.ref fa),some (.ref ga),some (.ref la),z5] ∧ PvN Hi [Q1,Q2,Q3] j Hx) ⟨_,rfl,Zmu⟩ ?_ ?_ ?_
  · rintro j σ Hx - ⟨z5,rfl,O,_⟩
    exact SqL.of (O _ _ lln qll)
  · rintro j x σ Hx hx ⟨z5,rfl,pv⟩
    obtain ⟨a,ha,rfl⟩:=ZdZ hx
    obtain ⟨_,zs,hz,lz⟩:=lst a (List.mem_of_getElem? ha)
    have hz':Hx a = some (.lst zs):=by rw [pv.2 j a (Nat.le_refl _) ha]; exact hz
    exact ⟨_,rfl,.inl ⟨rfl,_,SqL.of hz'⟩,a,zs,.non,rfl,rfl,hz',Nat.lt_of_lt_of_le lz (by decide),_,rfl,ZjP nodup ha pv⟩
  rintro σ Hx ⟨z5,rfl,O,_⟩
  have S0x:Same H Hx:=Off.same O S0i (fun z hz => (lst z hz).1)
  clear O lst pU1 pU2 pU3 p1i p2i p3i qll
  refine ⟨_,rfl,po,CP,dxp,_,_,_,_,rfl,S0x _ _ hpo,pc.cl,hM,rfl,_,rfl,_,rfl,fa,xs,rfl,.inl (SqL.of (S0x _ _ pF.l)),fun l nl => ?_⟩
  have Sl:=Zah nl (.lst xs)
  have pl:PolL κ (upd Hx l (.lst xs)) l xs F':=⟨Zaf,pF.al.mono fun _ _ n => n.same (S0x.trans Sl)⟩
  generalize upd Hx l (.lst xs) = Hy at *
  have S0y:=S0x.trans Sl
  refine ⟨κ,po,fa,l,xs,xs,F',F',rfl,poa S0y,pF.same S0y,pl,by omega,by omega,nF.b1,nF.b1,fun Hz R5 z5 T5 Sz nR5 pT5 tT5 eT5 lT5 => ⟨(by show 0 ≤ sizeLine; decide),fun e1 ne1 => ?_⟩⟩
  have T50:T5 = []:=ZkV tT5 (by rw [eT5]; generalize sr F' = f; grind)
  subst T50
  have Se1:=Zah ne1 (.lst [])
  have pe1:PolL κ (upd Hz e1 (.lst [])) e1 [] ([]:List κ.F):=⟨Zaf,.nil⟩
  generalize upd Hz e1 (.lst []) = Hw at *
  refine ⟨_,(pT5.same Se1).rp.mono (by decide),pe1.rp.mono (by decide),_,rfl,ZbE ?_⟩
  have S0w:=S0y.trans (Sz.trans Se1)
  refine ⟨_,rfl,_,rfl,po,CP,dxp,_,_,_,_,rfl,S0w _ _ hpo,pc.cl,hT,rfl,_,rfl,_,rfl,κ,po,fa,ga,xs,ys,F',G,144,144,10 ^ 63,10 ^ 63,rfl,poa S0w,pF.same S0w,pG.same S0w,by omega,by omega,nF.s,nG.s,by decide,by decide,by decide,by decide,by decide,by decide,fun Hv R6 z6 T6 Sv nR6 pT6 tT6 eT6 lT6 => ?_⟩
  have S0v:=S0w.trans Sv
  have pFv:=pF.same S0v
  have pGv:=pG.same S0v
  refine ⟨_,rfl,_,rfl,_,rfl,κ,fa,ga,xs,ys,F',G,144,144,10 ^ 63,10 ^ 63,rfl,pFv.l,pGv.l,pFv.al,pGv.al,by omega,by omega,nF.s,nG.s,by decide,by decide,⟨c2,c2,c0,c0,c5⟩,Nat.lt_of_le_of_lt (Nat.mul_le_mul lF (Nat.mul_le_mul_right _ lG)) c4,fun Hu R7 z7 r3 Su hR7 aR7 l7 y7 n7 nR7 => ?_⟩
  have lt:=ZaW F' G F'.length 0
  have p7:PolL κ Hu R7 z7 T6:=⟨hR7,by rw [← show (ZcB F' G F'.length 0).take r3 = T6 from Zeg (Za0 (by omega) n7) tT6 (by rw [ZbR y7,Zc9,eT6])]; exact aR7⟩
  exact ⟨κ,R6,R7,z6,z7,T6,rfl,pT6.same Su,p7,tT6,fun Ht St => k Ht (S0v.trans (Su.trans St))⟩
end
end My
namespace My
open PySem L2 PyProof.Rows
abbrev Zdn:Stmt:=top 54
abbrev Zk2:Stmt:=top 55
section
variable {κ:KX}
theorem Zk3 {t:Int} {x:κ.F} (h:NumV κ t x):QN κ 1 t.natAbs x:=by
  cases κ with
  | q =>
    refine ⟨t,?_,Nat.le_refl _⟩
    show x = Rat.divInt t 1
    rw [← Rat.num_divInt_den x,h.1,h.2]; rfl
  | r p hp => trivial
theorem ZlS {x:κ.F} (hx:x ≠ 0):Fd.inv x ≠ 0:=fun z => by
  have mi:=Fd.mul_inv x hx
  rw [z] at mi
  exact Fd.zne (show (1:κ.F) = 0 by rw [← mi]; grind).symm
theorem ZeE (x:κ.F):sr [x] = cn x:=rfl
theorem Zmv {g:κ.F} (h:g ≠ 0):cn (Fd.inv g) * cn g = 1:=ZlO h
end
def ZeF (CP CF CR:Addr):Sp:=fun vs H Q _ => ∃ (κ:KX) (s fa ga:Addr) (xs ys:List V) (F G:List κ.F),vs = [.ref s,.int κ.P,.ref fa,.ref ga] ∧ PoA CP CF CR κ H s ∧ PolL κ H fa xs F ∧ PolL κ H ga ys G ∧ PolN F ∧ PolN G ∧ ∀ H',Same H H' → Q (.bl true) H'
def Zdd (CP CF CR:Addr):Sp:=fun vs H Q _ => ∃ (κ:KX) (s:Addr) (t b:Int),vs = [.ref s,.int κ.P,.int t,.int b] ∧ PoA CP CF CR κ H s ∧ t.natAbs ≤ 6 ∧ b.natAbs ≤ 6 ∧ ∀ H',Same H H' → Q (.bl true) H'
theorem Zg9 {κ:KX} {t:Int} (h:t.natAbs ≤ 6):∃ x:κ.F,NumV κ t x:=by
  cases κ with
  | q => exact ⟨(t:Rat),rfl,rfl⟩
  | r p hp =>
    have h2:=hp.two
    have p0:(0:Int) < (p:Int):=by omega
    refine ⟨(⟨(t % (p:Int)).toNat,by have:=Int.emod_lt_of_pos t p0; have:=Int.emod_nonneg t (show (p:Int) ≠ 0 by omega); omega⟩:Fin p),Nat.le_trans h (by decide),?_⟩
    show (((t % (p:Int)).toNat:Nat):Int) = t % p
    exact Int.toNat_of_nonneg (Int.emod_nonneg t (by omega))
end My
namespace My
open PySem L2 PyProof.Rows
section
variable {P:Program} {w:World} {K:PySem.W.Frag} {mg:Str → Option Value} {base:Heap} {CP CF CR cN:Addr}
theorem sc_l_backs:FnScope ["_law_polys", "_law_prime_here", "_law_f", "_law_g", "_law_back", "_law_told"] ["_law_polys", "_law_prime_here", "_law_f", "_law_g"] (Zag ZdX):=⟨rfl,rfl,rfl,by decide +kernel,rfl,by decide +kernel,by decide +kernel⟩
theorem ZhG (h:Here K mg "_law_backs" ZdX) (T:Nm mg) (pc:Pc K mg CP) (hB:HasMX P w K mg base CP "back" 7 ["self", "one"] [] (ZdC CP CF CR cN)) (hO:HasMX P w K mg base CP "over" 7 ["self", "one", "other"] [] (ZdD CP CF CR cN)) (h_l_make:Has P w K mg base "_law_make" 7 ["_law_prime_here", "_law_number_here"] Za2) (h_l_is_poly:Has P w K mg base "_law_is_poly" 7 ["_law_prime_here", "_law_found"] ZbL) (h_l_poly_times:Has P w K mg base "_law_poly_times" 7 ["_law_prime_here", "_law_f", "_law_g"] Za9) (h_l_no_back:Has P w K mg base "_law_no_back" 7 ["_law_polys", "_law_g"] (Zds CP CF CR)) (h_l_not_over:Has P w K mg base "_law_not_over" 7 ["_law_polys", "_law_f", "_law_g"] (Zdb CP CF CR)):Has P w K mg base "_law_backs" 8 ["_law_polys", "_law_prime_here", "_law_f", "_law_g"] (ZeF CP CF CR):=by
  refine h.has (fun f fd F => F.binds fun _ _ _ _ _ _ us hl => by obtain ⟨_,_,_,_,rfl⟩:=Zlv hl; exact rfl) fun f fd F => F.ok sc_l_backs (fun vs H Q E h => ?_) (fun cdv A outer s H vs Q E hr h => ?_)
  · obtain ⟨_,_,_,_,_,_,_,_,rfl,_⟩:=h
    rfl
  obtain ⟨κ,po,fa,ga,xs,ys,F',G,rfl,⟨dxp,sk,hpo,hk⟩,pF,pG,nF,nG,k⟩:=h
  have nd:=sc_l_backs.nd
  refine ⟨_,(Zad (ZaC (Zap ZdG (Zak Zal (by rfl) T.len boot_len (Zaa (pv 3) Zab)) Zac (Zan _)) (Zae (Zai (Zca (Zam h_l_no_back hr (by rfl) (Zaa (pv 0) (Zaa (pv 3) Zab))) (ZbG (Zam h_l_not_over hr (by rfl) (Zaa (pv 0) (Zaa (pv 2) (Zaa (pv 3) Zab)))))))) Zao)
    (Zad (Zas (i:=4) nd rfl (Or.inl rfl) (ZaL (pv 0) ZeQ hr (Zaa (pv 3) Zab)))
    (Zad (ZaC (ZbW (ZaN (ZaD (Zam h_l_is_poly hr (by rfl) (Zaa (pv 1) (Zaa (pv 4) Zab))))) (ZbF (Zap (Zik hr) (Zam h_l_poly_times hr (by rfl) (Zaa (pv 1) (Zaa (pv 4) (Zaa (pv 3) Zab)))) (ZaJ (Zaa (Zam h_l_make hr (by rfl) (Zaa (pv 1) (Zaa Zac Zab))) Zab)) (Zan _)))).pt (Zae (Zai ZaX)) Zao)
    (Zad (Zas (i:=5) nd rfl (Or.inl rfl) (ZaL (pv 0) ZeQ hr (Zaa (pv 2) (Zaa (pv 3) Zab))))
    (Zae (Zai (Zca (Zam h_l_is_poly hr (by rfl) (Zaa (pv 1) (Zaa (pv 5) Zab))) (ZbG (ZaR (Zij hr) (Zam h_l_poly_times hr (by rfl) (Zaa (pv 1) (Zaa (pv 5) (Zaa (pv 3) Zab)))) (pv 2) (Zan _)))))))))),?_⟩
  have poa:∀ {H2},Same H H2 → PoA CP CF CR κ H2 po:=fun {H2} S => ⟨dxp,sk,S _ _ hpo,hk.same S⟩
  have ly:=pG.al.1
  have lF:=nF.l
  refine ⟨_,rfl,ga,_,rfl,.inl (SqL.of pG.l),rfl,_,rfl,?_⟩
  refine Zdo (fun z => ?_) (fun z => ?_)
  · have ne:G.length ≠ 1:=fun q => z (by omega)
    exact ⟨_,rfl,_,rfl,κ,po,ga,ys,G,rfl,poa (Same.refl _),pG,ne,fun H1 S1 => ⟨_,rfl,Zei ⟨_,rfl,_,rfl,_,rfl,κ,po,fa,ga,xs,ys,F',G,rfl,poa S1,pF.same S1,pG.same S1,ne,fun H2 S2 => k H2 (S1.trans S2)⟩⟩⟩
  obtain ⟨g,rfl⟩:∃ g,G = [g]:=by
    match G,(show G.length = 1 by omega) with
    | [g],_ => exact ⟨g,rfl⟩
  have g0:g ≠ 0:=by
    rcases nG.t with q | q
    · exact absurd q (Nat.succ_ne_zero 0)
    · exact q
  have i0:=ZlS g0
  have ii:=Zmv g0
  obtain ⟨a,a0,aN,qi⟩:=ZlJ (E:=144) (N:=10 ^ 63) (by decide) (by decide) (nG.s g (.head _)) g0
  have c0:(10 ^ 63:Nat) < 2 ^ 3000:=by decide +kernel
  have c2:(144:Nat) < 2 ^ 3000:=by decide +kernel
  have c3:(10 ^ 63 * 144:Nat) < 2 ^ 3000:=by decide +kernel
  have c6:(1 * (1 * (144 * 10 ^ 63)):Nat) < 2 ^ 3000:=by decide +kernel
  have c7:(144 * 10 ^ 63 * 144:Nat) < 2 ^ 3000:=by decide +kernel
  have c8:(144 * 10 ^ 63:Nat) < 2 ^ 3000:=by decide +kernel
  have c9:(10 ^ 63 * 144:Nat) < 2 ^ 3000:=by decide +kernel
  have ca:(5 * (1 * (10 ^ 63 * 144 * 10 ^ 63)):Nat) < 2 ^ 3000:=by decide +kernel
  generalize hiv:Fd.inv g = iv at *
  refine ⟨_,rfl,po,CP,dxp,_,_,_,_,rfl,hpo,pc.cl,hB,rfl,_,rfl,κ,po,ga,ys,[g],rfl,poa (Same.refl _),pG,(fun q => absurd rfl q),fun g' eg => ?_⟩
  obtain rfl:g = g':=by cases eg; rfl
  rw [hiv]
  refine ⟨g0,fun H1 ba bv S1 nba pb => ?_⟩
  refine ⟨_,rfl,_,rfl,κ,ba,[bv],[iv],rfl,pb,.inr i0,fun H2 S2 => ⟨_,rfl,ZbE ?_⟩⟩
  have S02:=S1.trans S2
  have pG2:=pG.same S02
  have pb2:=pb.same S2
  refine ⟨_,rfl,_,rfl,_,rfl,κ,ba,ga,[bv],ys,[iv],[g],(a:Int),144,144,10 ^ 63,rfl,pb2.l,pG2.l,pb2.al,pG2.al,(by show 1 ≤ 100; decide),(by show 1 ≤ 100; decide),(fun x hx => by rw [List.mem_singleton.mp hx]; exact qi),nG.s,by omega,by decide,⟨by rw [Int.natAbs_natCast]; exact Nat.lt_of_le_of_lt aN c0,c2,c2,c0,by rw [Int.natAbs_mul,Int.natAbs_natCast]; exact Nat.lt_of_le_of_lt (Nat.mul_le_mul_right _ aN) c3⟩,c6,fun H3 R1 z1 r1 S3 hR1 aR1 l1 y1 n1 nR1 => ?_⟩
  refine ⟨_,rfl,κ,1,1,rfl,Zgj,fun H4 v1 S4 nv1 => ⟨(by show 1 ≤ sizeLine; decide),fun o1 no1 => ?_⟩⟩
  have So1:=Zah no1 (.lst [v1])
  have po1:PolL κ (upd H4 o1 (.lst [v1])) o1 [v1] [K1 κ]:=⟨Zaf,.one (nv1.same So1)⟩
  generalize upd H4 o1 (.lst [v1]) = H5 at *
  have S35:=S4.trans So1
  have lt1:=ZaW [iv] [g] [iv].length 0
  have p1:PolL κ H5 R1 z1 [K1 κ]:=⟨S35 _ _ hR1,by
    rw [← show (ZcB [iv] [g] [iv].length 0).take r1 = [K1 κ] from Zeg (Za0 (by rw [lt1]; exact l1) n1) (.inr Zda) (by rw [ZbR y1,Zc9,ZeE,ZeE,ZeE,ii]; exact cn_one.symm)]
    exact aR1.mono fun _ _ n => n.same S35⟩
  refine ⟨_,p1.rp.mono (by decide),po1.rp.mono (by decide),_,rfl,ZbE ?_⟩
  have S05:=S02.trans (S3.trans S35)
  refine ⟨_,rfl,po,CP,dxp,_,_,_,_,rfl,S05 _ _ hpo,pc.cl,hO,rfl,_,rfl,_,rfl,κ,po,fa,ga,xs,ys,F',[g],rfl,poa S05,pF.same S05,pG.same S05,(fun q => absurd rfl q),fun g' eg => ?_⟩
  obtain rfl:g = g':=by cases eg; rfl
  rw [hiv]
  refine ⟨g0,by omega,144,a,10 ^ 63,144,nF.s,qi,by decide,by decide,a0,Nat.le_trans aN (by decide),by decide,by decide,fun H6 ta zs T' S6 nta pT tT eT lT => ?_⟩
  have qT:∀ x ∈ T',QN κ ((a * 144:Nat):Int) (144 * 10 ^ 63) x:=fun x hx => by
    obtain ⟨j,_,rfl⟩:=Zg5 hx
    have e:sr T' = cn iv * sr F':=by
      rw [eT]
      generalize sr F' = f
      generalize cn iv = z
      grind
    rw [← Zfh,e,Int.natCast_mul]
    exact ZiM qi nF.s j
  have S06:=S05.trans S6
  refine ⟨_,rfl,_,rfl,κ,ta,zs,T',rfl,pT,tT,fun H7 S7 => ⟨_,rfl,Zei ?_⟩⟩
  have S07:=S06.trans S7
  have pT7:=pT.same S7
  have pG7:=pG.same S07
  have aD:a * 144 ≤ 10 ^ 63 * 144:=Nat.mul_le_mul_right _ aN
  refine ⟨_,rfl,_,rfl,_,rfl,κ,ta,ga,zs,ys,T',[g],((a * 144:Nat):Int),144,144 * 10 ^ 63,10 ^ 63,rfl,pT7.l,pG7.l,pT7.al,pG7.al,by omega,(by show 1 ≤ 100; decide),qT,nG.s,by omega,by decide,⟨by rw [Int.natAbs_natCast]; exact Nat.lt_of_le_of_lt aD c9,c2,c8,c0,by rw [Int.natAbs_mul,Int.natAbs_natCast]; exact Nat.lt_of_le_of_lt (Nat.mul_le_mul_right _ aD) (by decide +kernel)⟩,Nat.lt_of_le_of_lt (Nat.mul_le_mul (show T'.length ≤ 5 by omega) (Nat.le_refl _)) (show 5 * (1 * (144 * 10 ^ 63 * 10 ^ 63)) < 2 ^ 3000 by decide +kernel),fun H8 R2 z2 r2 S8 hR2 aR2 l2 y2 n2 nR2 => ?_⟩
  have lt2:=ZaW T' [g] T'.length 0
  have p2:PolL κ H8 R2 z2 F':=⟨hR2,by
    rw [← show (ZcB T' [g] T'.length 0).take r2 = F' from Zeg (Za0 (by rw [lt2]; exact l2) n2) nF.t (by
      rw [ZbR y2,Zc9,eT,ZeE]
      generalize sr F' = f at *
      generalize cn iv = z at *
      generalize cn g = y at *
      have:f * z * y = f * (z * y):=by grind
      rw [this,ii]; grind)]
    exact aR2⟩
  exact ⟨_,rfl,_,p2.rp.mono (by decide),(pF.same (S07.trans S8)).rp.mono (by decide),k H8 (S07.trans S8)⟩
theorem sc_l_number:FnScope ["_law_polys", "_law_prime_here", "_law_top", "_law_bottom", "_law_told", "_law_times_here"] ["_law_polys", "_law_prime_here", "_law_top", "_law_bottom"] (Zag Zdn):=⟨rfl,rfl,rfl,by decide +kernel,rfl,by decide +kernel,by decide +kernel⟩
theorem Zff (h:Here K mg "_law_number" Zdn) (pc:Pc K mg CP) (hN:HasMX P w K mg base CP "number" 7 ["self", "top", "bottom"] [] (Zbg CP CF CR cN)) (hN1:HasMX P w K mg base CP "number" 7 ["self", "top", "bottom"] [.int 1] (Zbg CP CF CR cN)) (h_l_make:Has P w K mg base "_law_make" 7 ["_law_prime_here", "_law_number_here"] Za2) (h_l_is_poly:Has P w K mg base "_law_is_poly" 7 ["_law_prime_here", "_law_found"] ZbL) (h_l_poly_times:Has P w K mg base "_law_poly_times" 7 ["_law_prime_here", "_law_f", "_law_g"] Za9) (h_l_cut:Has P w K mg base "_law_cut" 7 ["_law_prime_here", "_law_numbers"] Zc3) (h_l_same:Has P w K mg base "_law_same" 7 ["_law_prime_here", "_law_found", "_law_due"] Zeh) (h_l_not_made:Has P w K mg base "_law_not_made" 7 ["_law_polys", "_law_top", "_law_bottom"] (Zdc CP CF CR)):Has P w K mg base "_law_number" 8 ["_law_polys", "_law_prime_here", "_law_top", "_law_bottom"] (Zdd CP CF CR):=by
  refine h.has (fun f fd F => F.binds fun _ _ _ _ _ _ us hl => by obtain ⟨_,_,_,_,rfl⟩:=Zlv hl; exact rfl) fun f fd F => F.ok sc_l_number (fun vs H Q E h => ?_) (fun cdv A outer s H vs Q E hr h => ?_)
  · obtain ⟨_,_,_,_,rfl,_⟩:=h
    rfl
  obtain ⟨κ,po,t,b,rfl,⟨dxp,sk,hpo,hk⟩,t6,b6,k⟩:=h
  have nd:=sc_l_number.nd
  refine ⟨_,(Zad (ZaC (ZaN (ZaD (Zam h_l_same hr (by rfl) (Zaa (pv 1) (Zaa (ZaL (pv 0) ZeQ hr (Zaa (pv 2) Zab)) (Zaa (Zam h_l_cut hr (by rfl) (Zaa (pv 1) (Zaa (ZaJ (Zaa (Zam h_l_make hr (by rfl) (Zaa (pv 1) (Zaa (pv 2) Zab))) Zab)) Zab))) Zab)))))) (Zae (Zai ZaX)) Zao)
    (Zad (ZaC (Zap (Zj1 hr) (Zam h_l_make hr (by rfl) (Zaa (pv 1) (Zaa (pv 3) Zab))) (Zam h_l_make hr (by rfl) (Zaa (pv 1) (Zaa Zac Zab))) (Zan _)) (Zae (Zai (Zam h_l_not_made hr (by rfl) (Zaa (pv 0) (Zaa (pv 2) (Zaa (pv 3) Zab)))))) Zao)
    (Zad (Zas (i:=4) nd rfl (Or.inl rfl) (ZaL (pv 0) ZeQ hr (Zaa (pv 2) (Zaa (pv 3) Zab))))
    (Zad (Zas (i:=5) nd rfl (Or.inl rfl) (Zam h_l_poly_times hr (by rfl) (Zaa (pv 1) (Zaa (pv 4) (Zaa (ZaJ (Zaa (Zam h_l_make hr (by rfl) (Zaa (pv 1) (Zaa (pv 3) Zab))) Zab)) Zab)))))
    (Zae (Zai (Zca (Zam h_l_is_poly hr (by rfl) (Zaa (pv 1) (Zaa (pv 4) Zab))) (ZbG (ZaR (Zij hr) (pv 5) (Zam h_l_cut hr (by rfl) (Zaa (pv 1) (Zaa (ZaJ (Zaa (Zam h_l_make hr (by rfl) (Zaa (pv 1) (Zaa (pv 2) Zab))) Zab)) Zab))) (Zan _)))))))))),?_⟩
  have poa:∀ {H2},Same H H2 → PoA CP CF CR κ H2 po:=fun {H2} S => ⟨dxp,sk,S _ _ hpo,hk.same S⟩
  obtain ⟨x,nx⟩:=Zg9 (κ:=κ) t6
  obtain ⟨y,ny⟩:=Zg9 (κ:=κ) b6
  refine ⟨_,rfl,_,rfl,po,CP,dxp,_,_,_,_,rfl,hpo,pc.cl,hN1,rfl,_,rfl,κ,po,t,1,x,1,rfl,poa (Same.refl _),nx,Zgj,by decide,(fun q => absurd q Zda),fun _ H1 R1 z1 T1 z S1 nR1 pT1 tT1 eT1 lT1 ez qz => ?_⟩
  have ezx:z = x:=by rw [← ez]; grind
  subst ezx
  refine ⟨_,rfl,_,rfl,_,rfl,κ,t,z,rfl,nx,fun H2 v2 S2 nv2 => ⟨(by show 1 ≤ sizeLine; decide),fun o1 no1 => ?_⟩⟩
  have So1:=Zah no1 (.lst [v2])
  have ao1:AllG (NR κ (upd H2 o1 (.lst [v2]))) [v2] [z]:=.one (nv2.same So1)
  have ho1:=Zaf (H:=H2) (a:=o1) (o:=.lst [v2])
  generalize upd H2 o1 (.lst [v2]) = H3 at *
  refine ⟨κ,o1,[v2],[z],rfl,ho1,ao1,fun H4 D4 r4 S4 hD4 lr4 y4 n4 _ => ?_⟩
  have S14:=S2.trans (So1.trans S4)
  have p4:PolL κ H4 D4 ([v2].take r4) T1:=⟨hD4,by
    rw [← show [z].take r4 = T1 from Zeg (Za0 lr4 n4) tT1 (by rw [ZbR y4,eT1]; rfl)]
    exact Zbw (ao1.mono fun _ _ n => n.same S4) r4⟩
  refine ⟨κ,R1,D4,z1,_,T1,rfl,pT1.same S14,p4,tT1,fun H5 S5 => ⟨_,rfl,ZbE ?_⟩⟩
  have S05:=S1.trans (S14.trans S5)
  clear p4 pT1 S14 S5 S4 hD4 ho1 ao1 So1 S2 eT1 tT1 qz ez
  refine ⟨_,rfl,_,rfl,κ,b,y,rfl,ny,fun H6 vb S6 nvb => ⟨_,rfl,κ,0,0,rfl,Zgi,fun H7 v0 S7 nv0 => ?_⟩⟩
  have S07:=S05.trans (S6.trans S7)
  obtain ⟨bb,eb,iff⟩:=ZkT (nvb.same S7) nv0
  refine ⟨bb,eb,_,rfl,?_⟩
  cases bb with
  | true =>
    have y0:=iff.mp rfl
    subst y0
    exact Zei ⟨_,rfl,_,rfl,_,rfl,κ,po,t,b,z,rfl,poa S07,nx,ny,Nat.le_trans b6 (by decide),fun H8 S8 => k H8 (S07.trans S8)⟩
  | false =>
  have y0:y ≠ 0:=fun q => by have:=iff.mpr q; cases this
  have b0:b ≠ 0:=fun q => y0 (by subst q; exact ny.uniq Zgi)
  refine ZbE ?_
  refine ⟨_,rfl,po,CP,dxp,_,_,_,_,rfl,S07 _ _ hpo,pc.cl,hN,rfl,_,rfl,_,rfl,κ,po,t,b,z,y,rfl,poa S07,nx,ny,Nat.le_trans b6 (by decide),(fun q => absurd q y0),fun _ H8 R8 z8 T8 u S8 nR8 pT8 tT8 eT8 lT8 eu qu => ?_⟩
  have S08:=S07.trans S8
  refine ⟨_,rfl,_,rfl,_,rfl,_,rfl,κ,b,y,rfl,ny,fun H9 v9 S9 nv9 => ⟨(by show 1 ≤ sizeLine; decide),fun o2 no2 => ?_⟩⟩
  have So2:=Zah no2 (.lst [v9])
  have po2:PolL κ (upd H9 o2 (.lst [v9])) o2 [v9] [y]:=⟨Zaf,.one (nv9.same So2)⟩
  generalize upd H9 o2 (.lst [v9]) = Ha at *
  have S8a:=S9.trans So2
  have S0a:=S08.trans S8a
  have pT8a:=pT8.same S8a
  have qT:∀ w ∈ T8,QN κ (b.natAbs:Int) 6 w:=fun w hw => by
    obtain ⟨j,hj,rfl⟩:=Zg5 hw
    rw [← Zfh,eT8,ZlY]
    split
    · exact qu.mono t6
    · exact QN.zero
  have qy:∀ w ∈ [y],QN κ 1 6 w:=fun w hw => by rw [List.mem_singleton.mp hw]; exact (Zk3 ny).mono b6
  have c6:(6:Nat) < 2 ^ 3000:=by decide +kernel
  have bp:(0:Int) < (b.natAbs:Int):=by omega
  have bs:((b.natAbs:Nat):Int).natAbs < 2 ^ 3000:=by rw [Int.natAbs_natCast]; exact Nat.lt_of_le_of_lt b6 c6
  refine ⟨κ,R8,o2,z8,[v9],T8,[y],(b.natAbs:Int),1,6,6,rfl,pT8a.l,po2.l,pT8a.al,po2.al,by omega,(by show 1 ≤ 100; decide),qT,qy,bp,by decide,⟨bs,by decide +kernel,c6,c6,by rw [Int.mul_one]; exact bs⟩,Nat.lt_of_le_of_lt (Nat.mul_le_mul lT8 (Nat.le_refl _)) (show 1 * (1 * (6 * 6)) < 2 ^ 3000 by decide +kernel),fun Hb Rb zb rb Sb hRb aRb lb yb nb nRb => ?_⟩
  have S8b:=S8a.trans Sb
  have S0b:=S08.trans S8b
  refine ⟨_,rfl,_,rfl,κ,R8,z8,T8,rfl,pT8.same S8b,tT8,fun Hc Sc => ⟨_,rfl,Zei ?_⟩⟩
  have S0c:=S0b.trans Sc
  refine ⟨_,rfl,_,rfl,_,rfl,_,rfl,κ,t,z,rfl,nx,fun Hd v3 Sd nv3 => ⟨(by show 1 ≤ sizeLine; decide),fun o3 no3 => ?_⟩⟩
  have So3:=Zah no3 (.lst [v3])
  have ao3:AllG (NR κ (upd Hd o3 (.lst [v3]))) [v3] [z]:=.one (nv3.same So3)
  have ho3:=Zaf (H:=Hd) (a:=o3) (o:=.lst [v3])
  generalize upd Hd o3 (.lst [v3]) = He at *
  refine ⟨κ,o3,[v3],[z],rfl,ho3,ao3,fun Hf Df rf Sf hDf lrf yf nf _ => ?_⟩
  have Sbf:=Sc.trans (Sd.trans (So3.trans Sf))
  have lt:=ZaW T8 [y] T8.length 0
  have tz:Trm ([z].take rf):=Za0 lrf nf
  have p1:PolL κ Hf Rb zb ([z].take rf):=⟨Sbf _ _ hRb,by
    rw [← show (ZcB T8 [y] T8.length 0).take rb = [z].take rf from Zeg (Za0 (by rw [lt]; exact lb) nb) tz (by
      rw [ZbR yb,Zc9,ZbR yf,eT8,ZeE,ZeE,ZlN,eu])]
    exact aRb.mono fun _ _ n => n.same Sbf⟩
  have p2:PolL κ Hf Df ([v3].take rf) ([z].take rf):=⟨hDf,Zbw (ao3.mono fun _ _ n => n.same Sf) rf⟩
  exact ⟨_,p1.rp.mono (by decide),p2.rp.mono (by decide),k Hf (S0b.trans Sbf)⟩
end
end My
namespace L2
open PySem PySem.Spec PyProof.Rows
section
variable {X:Cx}
theorem Zfg:OpR X (compareOp .IsNot) (fun x y H Q => ∃ b c:Bool,x = .bl b ∧ y = .bl c ∧ Q (.bl (!(b == c))) H):=by
  intro pins s σ H x y v u Q I rx ry h
  obtain ⟨b,c,rfl,rfl,q⟩:=h
  cases rx
  cases ry
  exact isnot_bool (ZaE I q rfl)
end
end L2
namespace My
open PySem L2 PyProof.Rows
theorem Znj {i:Nat} {v:V} {σ:L2.St} {H0:Hp} {Kc:L2.St → Hp → Prop} (C:Hp → Prop) (h:∀ H,C H → Zdt i v σ H Kc) (c:C H0):Zdt i v σ H0 Kc:=h H0 c
def BadV (κ:KX) (H:Hp) (v:V):Prop:=(∃ s,v = .str s) ∨ v = .non ∨ (∃ b,v = .bl b) ∨ v = .int κ.P ∨ v = .int (-1) ∨ (∃ a,v = .ref a ∧ H a = some (.tup [.int 2,.int 4])) ∨ ∃ a xs,v = .ref a ∧ H a = some (.lst xs)
theorem BadV.same {κ:KX} {H H':Hp} {v:V} (h:BadV κ H v) (S:Same H H'):BadV κ H' v:=by
  rcases h with h | h | h | h | h | ⟨a,e,h⟩ | ⟨a,xs,e,h⟩
  · exact .inl h
  · exact .inr (.inl h)
  · exact .inr (.inr (.inl h))
  · exact .inr (.inr (.inr (.inl h)))
  · exact .inr (.inr (.inr (.inr (.inl h))))
  · exact .inr (.inr (.inr (.inr (.inr (.inl ⟨a,e,S _ _ h⟩)))))
  · exact .inr (.inr (.inr (.inr (.inr (.inr ⟨a,xs,e,S _ _ h⟩)))))
theorem BadV.th {κ:KX} {H:Hp} {v:V} (h:BadV κ H v):Th H v:=by
  rcases h with ⟨s,rfl⟩ | rfl | ⟨b,rfl⟩ | rfl | rfl | ⟨a,rfl,h⟩ | ⟨a,xs,rfl,h⟩
  · exact .inl (.inr (.inr (.inr ⟨s,rfl⟩)))
  · exact .inl (.inr (.inr (.inl rfl)))
  · exact .inl (.inr (.inl ⟨b,rfl⟩))
  · exact .inl (.inl ⟨_,rfl⟩)
  · exact .inl (.inl ⟨_,rfl⟩)
  · refine .inr (.inr (.inr ⟨a,_,rfl,h,fun x hx => ?_⟩))
    rcases List.mem_cons.mp hx with rfl | hx
    · exact .inl ⟨_,rfl⟩
    · rw [List.mem_singleton.mp hx]; exact .inl ⟨_,rfl⟩
  · exact .inr (.inl ⟨a,xs,rfl,h⟩)
theorem BadV.isb {κ:KX} {H:Hp} {v:V} (h:BadV κ H v):IsB κ H v false:=by
  cases κ with
  | q =>
    rcases h with ⟨s,rfl⟩ | rfl | ⟨b,rfl⟩ | rfl | rfl | ⟨a,rfl,h⟩ | ⟨a,xs,rfl,h⟩
    · exact .inr ⟨fun t x y e => (nomatch e),rfl⟩
    · exact .inr ⟨fun t x y e => (nomatch e),rfl⟩
    · exact .inr ⟨fun t x y e => (nomatch e),rfl⟩
    · exact .inr ⟨fun t x y e => (nomatch e),rfl⟩
    · exact .inr ⟨fun t x y e => (nomatch e),rfl⟩
    · exact Zgr h
    · exact .inr ⟨fun t x y e z => (by cases e; rw [h] at z; cases z),rfl⟩
  | r p hp =>
    rcases h with ⟨s,rfl⟩ | rfl | ⟨b,rfl⟩ | rfl | rfl | ⟨a,rfl,h⟩ | ⟨a,xs,rfl,h⟩
    · exact .inr ⟨rfl,rfl⟩
    · exact .inr ⟨rfl,rfl⟩
    · exact .inr ⟨rfl,rfl⟩
    · refine .inl ⟨_,rfl,?_⟩
      rw [show decide ((KX.r p hp).P < (p:Int)) = false from decide_eq_false (Int.lt_irrefl _),Bool.and_false]
    · exact .inl ⟨_,rfl,rfl⟩
    · exact .inr ⟨rfl,rfl⟩
    · exact .inr ⟨rfl,rfl⟩
def ZeG (CP CF CR:Addr):Sp:=fun vs H Q _ => ∃ (κ:KX) (s fa:Addr) (xs:List V) (F:List κ.F) (c:Int),vs = [.ref s,.int κ.P,.ref fa,.int c] ∧ PoA CP CF CR κ H s ∧ PolL κ H fa xs F ∧ PolN F ∧ ∀ H',Same H H' → Q (.bl true) H'
theorem ZfU {K:PySem.W.Frag} {CP CF CR:Addr} {κ:KX} {H:Hp} {po a:Addr} {xs:List V} {Q:VK} {E:XK} (po':PoA CP CF CR κ H po) (ha:H a = some (.lst xs)) (l:xs.length ≤ 100) (th:∀ x ∈ xs,BadV κ H x ∨ ∃ z:κ.F,NR κ H x z) (ex:∃ x ∈ xs,BadV κ H x) (k:∀ H',Same H H' → Q (.bl false) H'):Zc6 K CP CF CR [.ref po,.ref a] H Q E:=by
  obtain ⟨x,hx,bx⟩:=ex
  refine ⟨κ,po,.ref a,rfl,po',.inr (.inl ⟨a,xs,rfl,ha,l,fun y hy => ?_,⟨x,hx,bx.isb⟩,k⟩)⟩
  rcases th y hy with h | ⟨z,h⟩
  · exact h.th
  · exact h.th.1
end My
namespace My
open PySem L2 PyProof.Rows
section
variable {P:Program} {w:World} {K:PySem.W.Frag} {mg:Str → Option Value} {base:Heap} {CP CF CR cN:Addr}
theorem sc_l_asked:FnScope ["_law_polys", "_law_prime_here", "_law_f", "_law_cell", "_law_nought", "_law_thing", "_law_at", "_law_bad"] ["_law_polys", "_law_prime_here", "_law_f", "_law_cell"] (Zag ZdY):=⟨rfl,rfl,rfl,by decide +kernel,rfl,by decide +kernel,by decide +kernel⟩
theorem ZhH (h:Here K mg "_law_asked" ZdY) (T:Nm mg) (pc:Pc K mg CP) (hI:HasM P w K mg base CP "is_number" 6 ["self", "thing"] [] (Zc6 K CP CF CR)) (hZ:HasM P w K mg base CP "is_nought" 6 ["self", "one"] [] (Zdm CP CF CR)) (h_l_make:Has P w K mg base "_law_make" 6 ["_law_prime_here", "_law_number_here"] Za2):Has P w K mg base "_law_asked" 7 ["_law_polys", "_law_prime_here", "_law_f", "_law_cell"] (ZeG CP CF CR):=by
  refine h.has (fun f fd F => F.binds fun _ _ _ _ _ _ us hl => by obtain ⟨_,_,_,_,rfl⟩:=Zlv hl; exact rfl) fun f fd F => F.ok sc_l_asked (fun vs H Q E h => ?_) (fun cdv A outer s H vs Q E hr h => ?_)
  · obtain ⟨_,_,_,_,_,_,rfl,_⟩:=h
    rfl
  obtain ⟨κ,po,fa,xs,F',c,rfl,⟨dxp,sk,hpo,hk⟩,pF,nF,k⟩:=h
  have nd:=sc_l_asked.nd
  refine ⟨_,(Zad (Zas (i:=4) nd rfl (Or.inl rfl) (Zam h_l_make hr (by rfl) (Zaa (pv 1) (Zaa Zac Zab))))
    (Zad (ZaC (ZbW (Zap Zfg (ZaA (pv 0) hr (Zaa (ZbC Za1 (by rfl) T.list boot_list (Zaa (pv 2) Zab)) Zab)) ZaX (Zan _)) (ZbF (ZaN (ZaD (Zak Zau (by rfl) T.isinstance boot_isinstance (Zaa (ZaA (pv 0) hr (Zaa (ZbC Za1 (by rfl) T.list boot_list (Zaa (pv 2) Zab)) Zab)) (Zaa (Zdu (by rfl) T.bool boot_bool) Zab))))))).pt (Zae (Zai ZaX)) Zao)
    (Zad (ZaC (Zap ZdG (ZaA (pv 0) hr (Zaa (ZbC Za1 (by rfl) T.list boot_list (Zaa (pv 2) Zab)) Zab)) (ZaR (ZlD hr) (pv 2) (ZaJ Zab) (Zan _)) (Zan _)) (Zae (Zai ZaX)) Zao)
    (Zad (ZcD PassesOwn.never rfl (ZcH (ZaJ (Zaa (Zaj ZcS (pv 2) (ZaJ (Zaa (pv 4) Zab))) (Zaa (ZbC ZeK (by rfl) T.tuple boot_tuple (Zaa (pv 2) Zab)) (Zaa (pv 4) (Zaa ZdE (Zaa (Zaj ZcS (pv 2) (ZaJ (Zaa ZdF Zab))) Zab))))))) (ZaH (i:=5) nd rfl (Or.inl rfl)) (Zae (ZaC (Zap Zfg (ZaA (pv 0) hr (Zaa (pv 5) Zab)) ZaX (Zan _)) (Zae (Zai ZaX)) Zao)))
    (Zad (Zas (i:=6) nd rfl (Or.inl rfl) (Zaj ZaQ (pv 3) (Zaj ZaP (Zak Zal (by rfl) T.len boot_len (Zaa (pv 2) Zab)) Zac)))
    (Zad (ZcD PassesOwn.never rfl (ZcH (ZaJ (Zaa ZdF (Zaa ZdE (Zaa ZaX (Zaa (pv 1) (Zaa (ZeH ZcR Zac) (Zaa (Zbs (Zaa Zac (Zaa Zac Zab))) (Zaa (ZaJ (Zaa Zac Zab)) Zab))))))))) (ZaH (i:=7) nd rfl (Or.inl rfl)) (Zae (ZaC (Zap Zfg (ZaA (pv 0) hr (Zaa (Zaj ZcS (Zaj ZcS (Zaj ZcS (Zbt ZbY (pv 2) Zce (ZbO (pv 6))) (ZaJ (Zaa (pv 7) Zab))) (Zbt ZbY (pv 2) (ZbO (pv 6)) Zce)) (ZaJ (Zaa (Zam h_l_make hr (by rfl) (Zaa (pv 1) (Zaa Zac Zab))) Zab))) Zab)) ZaX (Zan _)) (Zae (Zai ZaX)) Zao)))
    (Zae (Zai ZaX)))))))),?_⟩
  have poa:∀ {H2},Same H H2 → PoA CP CF CR κ H2 po:=fun {H2} S => ⟨dxp,sk,S _ _ hpo,hk.same S⟩
  have lx:=pF.al.1
  have lF:=nF.l
  refine ⟨_,rfl,κ,0,0,rfl,Zgi,fun H1 nv S1 nn => ?_⟩
  refine ⟨_,rfl,po,CP,dxp,_,_,_,_,rfl,S1 _ _ hpo,pc.cl,hI,rfl,_,rfl,fa,xs,rfl,.inl (SqL.of (S1 _ _ pF.l)),fun l nl => ?_⟩
  have Sl:=Zah nl (.lst xs)
  have pl:PolL κ (upd H1 l (.lst xs)) l xs F':=⟨Zaf,pF.al.mono fun _ _ n => n.same (S1.trans Sl)⟩
  generalize upd H1 l (.lst xs) = H2 at *
  have S02:=S1.trans Sl
  refine ⟨κ,po,.ref l,rfl,poa S02,.inl ⟨l,xs,F',rfl,pl,by omega,fun H3 b S3 hb => ?_⟩⟩
  obtain rfl:b = true:=hb.mpr nF.t
  refine ⟨true,true,rfl,rfl,_,rfl,ZbE ?_⟩
  have S03:=S02.trans S3
  refine ⟨_,rfl,po,CP,dxp,_,_,_,_,rfl,S03 _ _ hpo,pc.cl,hZ,rfl,_,rfl,fa,xs,rfl,.inl (SqL.of (S03 _ _ pF.l)),fun l2 nl2 => ?_⟩
  have Sl2:=Zah nl2 (.lst xs)
  have pl2:PolL κ (upd H3 l2 (.lst xs)) l2 xs F':=⟨Zaf,pF.al.mono fun _ _ n => n.same (S03.trans Sl2)⟩
  generalize upd H3 l2 (.lst xs) = H4 at *
  have S04:=S03.trans Sl2
  refine ⟨κ,po,l2,xs,F',rfl,pl2,_,_,_,_,rfl,.of (.bl _),.ty (Za7 K _),_,rfl,ZbE ?_⟩
  refine ⟨_,rfl,po,CP,dxp,_,_,_,_,rfl,S04 _ _ hpo,pc.cl,hZ,rfl,_,rfl,fa,xs,rfl,.inl (SqL.of (S04 _ _ pF.l)),fun l3 nl3 => ?_⟩
  have Sl3:=Zah nl3 (.lst xs)
  have pl3:PolL κ (upd H4 l3 (.lst xs)) l3 xs F':=⟨Zaf,pF.al.mono fun _ _ n => n.same (S04.trans Sl3)⟩
  generalize upd H4 l3 (.lst xs) = H5 at *
  have S05:=S04.trans Sl3
  refine ⟨κ,po,l3,xs,F',rfl,pl3,_,rfl,(by show 0 ≤ sizeLine; decide),fun e0 ne0 => ?_⟩
  have Se0:=Zah ne0 (.lst [])
  have qe0:=Zaf (H:=H5) (a:=e0) (o:=.lst [])
  generalize upd H5 e0 (.lst []) = H6 at *
  have S06:=S05.trans Se0
  refine ⟨fa,e0,xs,rfl,rfl,S06 _ _ pF.l,qe0,rfl,_,rfl,?_⟩
  refine Zf2 (fun e => absurd (show V.bl (decide (F'.length = 0)) = V.bl (decide (xs.length = 0)) by rw [lx]) e) (fun _ => ?_)
  refine ⟨_,rfl,_,rfl,(by show 1 ≤ sizeLine; decide),fun q1 hq1 => ?_⟩
  have Sq1:=Zah hq1 (.lst [nv])
  have qq1:=Zaf (H:=H6) (a:=q1) (o:=.lst [nv])
  generalize upd H6 q1 (.lst [nv]) = H7 at *
  have S07:=S06.trans Sq1
  refine ⟨fa,q1,xs,[nv],rfl,rfl,S07 _ _ pF.l,qq1,Nat.le_trans (show xs.length + 1 ≤ 1000 by omega) (by decide),fun c1 hc1 => ?_⟩
  have Sc1:=Zah hc1 (.lst (xs ++ [nv]))
  have qc1:=Zaf (H:=H7) (a:=c1) (o:=.lst (xs ++ [nv]))
  generalize upd H7 c1 (.lst (xs ++ [nv])) = H8 at *
  have S08:=S07.trans Sc1
  refine ⟨_,rfl,fa,xs,rfl,.inl ⟨SqL.of (S08 _ _ pF.l),fun tpl ntpl => ?_⟩⟩
  have St:=Zah ntpl (.tup xs)
  have qt:=Zaf (H:=H8) (a:=tpl) (o:=.tup xs)
  generalize upd H8 tpl (.tup xs) = H9 at *
  have S09:=S08.trans St
  refine ⟨_,rfl,_,rfl,(by show 1 ≤ sizeLine; decide),fun q2 hq2 => ?_⟩
  have Sq2:=Zah hq2 (.lst [.str "1"])
  have qq2:=Zaf (H:=H9) (a:=q2) (o:=.lst [.str "1"])
  generalize upd H9 q2 (.lst [.str "1"]) = Ha at *
  have S0a:=S09.trans Sq2
  refine ⟨fa,q2,xs,[.str "1"],rfl,rfl,S0a _ _ pF.l,qq2,Nat.le_trans (show xs.length + 1 ≤ 1000 by omega) (by decide),fun c2 hc2 => ?_⟩
  have Sc2:=Zah hc2 (.lst (xs ++ [.str "1"]))
  have qc2:=Zaf (H:=Ha) (a:=c2) (o:=.lst (xs ++ [.str "1"]))
  generalize upd Ha c2 (.lst (xs ++ [.str "1"])) = Hb at *
  have S9b:=Sq2.trans Sc2
  have S0b:=S09.trans S9b
  refine ⟨(by show 5 ≤ sizeLine; decide),fun ll nll => ?_⟩
  have Sll:=Zah nll (.lst [.ref c1,.ref tpl,nv,.non,.ref c2])
  have qll:=Zaf (H:=Hb) (a:=ll) (o:=.lst [.ref c1,.ref tpl,nv,.non,.ref c2])
  generalize upd Hb ll (.lst [.ref c1,.ref tpl,nv,.non,.ref c2]) = Hc at *
  have S0c:=S0b.trans Sll
  have S9c:=S9b.trans Sll
  have S8c:=St.trans S9c
  have S1c:Same H1 Hc:=Sl.trans (S3.trans (Sl2.trans (Sl3.trans (Se0.trans (Sq1.trans (Sc1.trans S8c))))))
  have hv:∀ v ∈ [V.ref c1,.ref tpl,nv,.non,.ref c2],∀ {H2:Hp},Same Hc H2 → ∀ {Q:VK} {E:XK},(∀ H3,Same H2 H3 → Q (.bl false) H3) → Zc6 K CP CF CR [.ref po,v] H2 Q E:=fun v hv H2 S Q E kk => by
    have po2:=poa (S0c.trans S)
    rcases List.mem_cons.mp hv with rfl | hv
    · refine ⟨κ,po,_,rfl,po2,.inl ⟨c1,xs ++ [nv],F' ++ [0],rfl,⟨(S8c.trans S) _ _ qc1,(pF.al.mono fun _ _ n => n.same (S0c.trans S)).append (.one (nn.same (S1c.trans S)))⟩,by rw [List.length_append]; show _ + 1 ≤ 100; omega,fun H3 b S3 hb => ?_⟩⟩
      have nt:¬ Trm (F' ++ [0]):=fun z => by
        have e:(F' ++ [(0:κ.F)]).length = F'.length + 1:=List.length_append
        rcases z with z | z
        · omega
        · rw [e,Nat.add_sub_cancel] at z
          refine z ?_
          rw [List.getD_eq_getElem?_getD,List.getElem?_append_right (Nat.le_refl _),Nat.sub_self]; rfl
      cases b with
      | true => exact absurd (hb.mp rfl) nt
      | false => exact kk H3 S3
    rcases List.mem_cons.mp hv with rfl | hv
    · exact ⟨κ,po,_,rfl,po2,.inr (.inr ⟨"tuple", .of (.tup ((S9c.trans S) _ _ qt)),Zbx K (by decide +kernel) (by decide +kernel) (by decide +kernel),kk H2 (Same.refl _)⟩)⟩
    rcases List.mem_cons.mp hv with rfl | hv
    · have n2:=nn.same (S1c.trans S)
      obtain ⟨Ty,b,ty,k1,e⟩:=n2.th.1.tyL (K:=K)
      cases b with
      | true =>
        obtain ⟨a,ys,ev,q⟩:=e rfl
        subst ev
        cases κ with
        | q =>
          obtain ⟨a',e',q'⟩:=n2
          cases e'
          rw [q'] at q; cases q
        | r p hp =>
          have:V.ref a = V.int _:=n2
          cases this
      | false => exact ⟨κ,po,_,rfl,po2,.inr (.inr ⟨Ty,ty,k1,kk H2 (Same.refl _)⟩)⟩
    rcases List.mem_cons.mp hv with rfl | hv
    · exact ⟨κ,po,_,rfl,po2,.inr (.inr ⟨"NoneType", .of .non,Zbx K (by decide +kernel) (by decide +kernel) (by decide +kernel),kk H2 (Same.refl _)⟩)⟩
    · rw [List.mem_singleton.mp hv]
      refine ZfU po2 ((Sll.trans S) _ _ qc2) (by rw [List.length_append]; show _ + 1 ≤ 100; omega) (fun x hx => ?_) ⟨.str "1", List.mem_append.mpr (.inr (.head _)),.inl ⟨_,rfl⟩⟩ kk
      rcases List.mem_append.mp hx with z | z
      · obtain ⟨j,hj,ej⟩:=List.getElem_of_mem z
        obtain ⟨y,_,ny⟩:=pF.al.get (show xs[j]? = some x by rw [List.getElem?_eq_getElem hj,ej])
        exact .inr ⟨y,ny.same (S0c.trans S)⟩
      · rw [List.mem_singleton.mp z]; exact .inl (.inl ⟨_,rfl⟩)
  refine ⟨ll,rfl,⟨_,SqL.of qll⟩,?_⟩
  refine ZcP (xs:=[.ref c1,.ref tpl,nv,.non,.ref c2]) (fun j σ Hx => ∃ z5:Option V,σ = [some (.ref po),some (.int κ.P),some (.ref fa),some (.int c),some nv,z5,none,none] ∧ Same Hc Hx) ⟨_,rfl,Same.refl _⟩ ?_ ?_ ?_
  · rintro j σ Hx - ⟨z5,rfl,Sx⟩
    exact SqL.of (Sx _ _ qll)
  · rintro j x σ Hx hx ⟨z5,rfl,Sx⟩
    refine ⟨_,rfl,po,CP,dxp,_,_,_,_,rfl,(S0c.trans Sx) _ _ hpo,pc.cl,hI,rfl,_,rfl,?_⟩
    simp only [ZlW,List.append_nil]
    exact hv x (List.mem_of_getElem? hx) Sx fun H3 S3 => ⟨false,false,rfl,rfl,_,rfl,ZbE ⟨_,rfl,Sx.trans S3⟩⟩
  rintro σ Hd ⟨z5,rfl,Sd⟩
  have S0d:=S0c.trans Sd
  clear hv qll qc1 qc2 qt qq1 qq2 S8c S9c S9b S1c
  obtain ⟨n,en,ln⟩:=ZlA (a:=c) (n:=F'.length + 1) (by omega)
  have en':c.fmod ((xs.length:Int) + 1) = (n:Int):=by rw [← en,lx]; congr 1
  refine ⟨_,rfl,_,rfl,fa,_,rfl,.inl (SqL.of (S0d _ _ pF.l)),_,_,rfl,rfl,_,_,rfl,rfl,(show (xs.length:Int) + 1 ≠ 0 by omega),?_⟩
  show Zdt 6 (V.int (c.fmod ((xs.length:Int) + 1))) _ Hd _
  rw [en']
  refine ⟨_,rfl,_,rfl,(by show 2 ≤ sizeLine; decide),fun tp ntp => ?_⟩
  have Stp:=Zah ntp (.tup [.int 2,.int 4])
  have qtp:=Zaf (H:=Hd) (a:=tp) (o:=.tup [.int 2,.int 4])
  generalize upd Hd tp (.tup [.int 2,.int 4]) = He at *
  refine ⟨(by show 1 ≤ sizeLine; decide),fun o1 no1 => ?_⟩
  have So1:=Zah no1 (.lst [.int 1])
  have qo1:=Zaf (H:=He) (a:=o1) (o:=.lst [.int 1])
  generalize upd He o1 (.lst [.int 1]) = Hf at *
  refine ⟨(by show 7 ≤ sizeLine; decide),fun ll nll => ?_⟩
  have Sll:=Zah nll (.lst [.str "1", .non,.bl true,.int κ.P,.int (-1),.ref tp,.ref o1])
  have qll:=Zaf (H:=Hf) (a:=ll) (o:=.lst [.str "1", .non,.bl true,.int κ.P,.int (-1),.ref tp,.ref o1])
  generalize upd Hf ll (.lst [.str "1", .non,.bl true,.int κ.P,.int (-1),.ref tp,.ref o1]) = Hg at *
  have S0g:=S0d.trans (Stp.trans (So1.trans Sll))
  have bad:∀ v ∈ [V.str "1", .non,.bl true,.int κ.P,.int (-1),.ref tp,.ref o1],BadV κ Hg v:=fun v hv => by
    rcases List.mem_cons.mp hv with rfl | hv
    · exact .inl ⟨_,rfl⟩
    rcases List.mem_cons.mp hv with rfl | hv
    · exact .inr (.inl rfl)
    rcases List.mem_cons.mp hv with rfl | hv
    · exact .inr (.inr (.inl ⟨_,rfl⟩))
    rcases List.mem_cons.mp hv with rfl | hv
    · exact .inr (.inr (.inr (.inl rfl)))
    rcases List.mem_cons.mp hv with rfl | hv
    · exact .inr (.inr (.inr (.inr (.inl rfl))))
    rcases List.mem_cons.mp hv with rfl | hv
    · exact .inr (.inr (.inr (.inr (.inr (.inl ⟨tp,rfl,(So1.trans Sll) _ _ qtp⟩)))))
    · rw [List.mem_singleton.mp hv]; exact .inr (.inr (.inr (.inr (.inr (.inr ⟨o1,_,rfl,Sll _ _ qo1⟩)))))
  refine ⟨ll,rfl,⟨_,SqL.of qll⟩,?_⟩
  refine ZcP (xs:=[V.str "1", .non,.bl true,.int κ.P,.int (-1),.ref tp,.ref o1]) (fun j σ Hx => ∃ z7:Option V,σ = [some (.ref po),some (.int κ.P),some (.ref fa),some (.int c),some nv,z5,some (.int (n:Int)),z7] ∧ Same Hg Hx) ⟨_,rfl,Same.refl _⟩ ?_ ?_ ?_
  · rintro j σ Hx - ⟨z7,rfl,Sx⟩
    exact SqL.of (Sx _ _ qll)
  · rintro j v σ Hx hx ⟨z7,rfl,Sx⟩
    have bv:=bad v (List.mem_of_getElem? hx)
    have S0x:=S0g.trans Sx
    refine ⟨_,rfl,po,CP,dxp,_,_,_,_,rfl,S0x _ _ hpo,pc.cl,hI,rfl,_,rfl,_,rfl,(n:Int),rfl,fa,xs,rfl,SqL.of (S0x _ _ pF.l),fun p1 hp1 => ?_⟩
    rw [Zd6]
    have Sp1:=Zah hp1 (.lst (xs.take n))
    have qp1:=Zaf (H:=Hx) (a:=p1) (o:=.lst (xs.take n))
    generalize upd Hx p1 (.lst (xs.take n)) = Hh at *
    refine ⟨_,rfl,(by show 1 ≤ sizeLine; decide),fun q1 hq1 => ?_⟩
    have Sq1:=Zah hq1 (.lst [v])
    have qq1:=Zaf (H:=Hh) (a:=q1) (o:=.lst [v])
    generalize upd Hh q1 (.lst [v]) = Hi at *
    refine ⟨p1,q1,_,[v],rfl,rfl,Sq1 _ _ qp1,qq1,Nat.le_trans (show (xs.take n).length + 1 ≤ 1000 by rw [List.length_take]; omega) (by decide),fun c1 hc1 => ?_⟩
    have Sc1:=Zah hc1 (.lst (xs.take n ++ [v]))
    have qc1:=Zaf (H:=Hi) (a:=c1) (o:=.lst (xs.take n ++ [v]))
    generalize upd Hi c1 (.lst (xs.take n ++ [v])) = Hj at *
    have Sxj:=Sp1.trans (Sq1.trans Sc1)
    refine ⟨_,rfl,_,rfl,(n:Int),rfl,fa,xs,rfl,SqL.of ((S0x.trans Sxj) _ _ pF.l),fun p2 hp2 => ?_⟩
    rw [Zc1]
    have Sp2:=Zah hp2 (.lst (xs.drop n))
    have qp2:=Zaf (H:=Hj) (a:=p2) (o:=.lst (xs.drop n))
    generalize upd Hj p2 (.lst (xs.drop n)) = Hk at *
    refine ⟨c1,p2,_,_,rfl,rfl,Sp2 _ _ qc1,qp2,Nat.le_trans (show (xs.take n ++ [v]).length + (xs.drop n).length ≤ 1000 by rw [List.length_append,List.length_take,List.length_drop]; show _ + 1 + _ ≤ 1000; omega) (by decide),fun c2 hc2 => ?_⟩
    have Sc2:=Zah hc2 (.lst (xs.take n ++ [v] ++ xs.drop n))
    have qc2:=Zaf (H:=Hk) (a:=c2) (o:=.lst (xs.take n ++ [v] ++ xs.drop n))
    generalize upd Hk c2 (.lst (xs.take n ++ [v] ++ xs.drop n)) = Hl at *
    refine ⟨_,rfl,κ,1,1,rfl,Zgj,fun Hm v1 Sm n1 => ⟨(by show 1 ≤ sizeLine; decide),fun q3 hq3 => ?_⟩⟩
    have Sq3:=Zah hq3 (.lst [v1])
    have qq3:=Zaf (H:=Hm) (a:=q3) (o:=.lst [v1])
    generalize upd Hm q3 (.lst [v1]) = Hn at *
    refine ⟨c2,q3,_,[v1],rfl,rfl,(Sm.trans Sq3) _ _ qc2,qq3,Nat.le_trans (show (xs.take n ++ [v] ++ xs.drop n).length + 1 ≤ 1000 by rw [List.length_append,List.length_append,List.length_take,List.length_drop]; show _ + 1 + _ + 1 ≤ 1000; omega) (by decide),fun c3 hc3 => ?_⟩
    have Sc3:=Zah hc3 (.lst (xs.take n ++ [v] ++ xs.drop n ++ [v1]))
    have qc3:=Zaf (H:=Hn) (a:=c3) (o:=.lst (xs.take n ++ [v] ++ xs.drop n ++ [v1]))
    generalize upd Hn c3 (.lst (xs.take n ++ [v] ++ xs.drop n ++ [v1])) = Ho at *
    have Sxo:=Sxj.trans (Sp2.trans (Sc2.trans (Sm.trans (Sq3.trans Sc3))))
    have S0o:=S0x.trans Sxo
    have num:∀ x ∈ xs,∃ z:κ.F,NR κ Ho x z:=fun x hx => by
      obtain ⟨j,hj,ej⟩:=List.getElem_of_mem hx
      obtain ⟨y,_,ny⟩:=pF.al.get (show xs[j]? = some x by rw [List.getElem?_eq_getElem hj,ej])
      exact ⟨y,ny.same S0o⟩
    simp only [ZlW,List.append_nil]
    refine ZfU (poa S0o) qc3 (by rw [List.length_append,List.length_append,List.length_append,List.length_take,List.length_drop]; show _ + 1 + _ + 1 ≤ 100; omega) (fun x hx => ?_) ⟨v,List.mem_append.mpr (.inl (List.mem_append.mpr (.inl (List.mem_append.mpr (.inr (.head _)))))),bv.same (Sx.trans Sxo)⟩ fun H3 S3 => ⟨false,false,rfl,rfl,_,rfl,ZbE ⟨_,rfl,Sx.trans (Sxo.trans S3)⟩⟩
    rcases List.mem_append.mp hx with hx | hx
    · rcases List.mem_append.mp hx with hx | hx
      · rcases List.mem_append.mp hx with hx | hx
        · exact .inr (num x (List.mem_of_mem_take hx))
        · rw [List.mem_singleton.mp hx]; exact .inl (bv.same (Sx.trans Sxo))
      · exact .inr (num x (List.mem_of_mem_drop hx))
    · rw [List.mem_singleton.mp hx]; exact .inr ⟨_,n1.same (Sq3.trans Sc3)⟩
  · rintro σ Hx ⟨z7,rfl,Sx⟩
    exact k Hx (S0g.trans Sx)
end
end My
namespace My
open PySem L2 PyProof.Rows
structure TyI (K:PySem.W.Frag) (C:Addr):Prop where
  ha:PySem.W.findIn K (.ref C) "__class__" = some (some (.builtin "object.__class__"))
  hn:PySem.W.specialIn K (.builtin "object.__class__") "__get__" = some (some (.builtin "getset_descriptor.__get__"))
  htk:PySem.W.takesIn K (.builtin "object.__class__") = some true
  hm:PySem.W.mroIn K C (.type "object") = some true
structure Kc (K:PySem.W.Frag) (mg:Str → Option Value) (CF CR CB:Addr):Prop where
  b:CN K mg "Kind" CB
  f:CN K mg "Fractions" CF
  r:CN K mg "Rests" CR
  tF:TyI K CF
  tR:TyI K CR
  fb:PySem.W.mroIn K CF (.ref CB) = some true ∧ CF ≠ CB
  rb:PySem.W.mroIn K CR (.ref CB) = some true ∧ CR ≠ CB
  fr:PySem.W.mroIn K CF (.ref CR) = some false ∧ CF ≠ CR
  rf:PySem.W.mroIn K CR (.ref CF) = some false ∧ CR ≠ CF
theorem CN.yes {K:PySem.W.Frag} {mg:Str → Option Value} {x:Str} {C D:Addr} (n:CN K mg x D) (h:PySem.W.mroIn K C (.ref D) = some true ∧ C ≠ D):PySem.W.kitOne K (.ref C) (.ref D) = some true:=Zie n.c n.t h.1 h.2
theorem TyI.ty {K:PySem.W.Frag} {C a dx:Addr} {H:Hp} {fs:List (Str × V)} (t:TyI K C) (cl:Cls K C) (e:H a = some (.ins C dx fs)):TyX K H (.ref a) (.ref C):=.of (.ins e cl t.ha t.hn t.htk t.hm)
structure Kp (K:PySem.W.Frag) (CP CB:Addr):Prop where
  t:TyI K CP
  b:PySem.W.mroIn K CP (.ref CB) = some true ∧ CP ≠ CB
theorem Zmw {K:PySem.W.Frag} {mg:Str → Option Value} {CF CR CB:Addr} {κ:KX} {H:Hp} {s:Addr} (kd:Kd K mg CF CR) (kc:Kc K mg CF CR CB) (hk:KdX CF CR κ H s):∃ (C:Addr) (b:Bool),TyX K H (.ref s) (.ref C) ∧ PySem.W.kitOne K (.ref C) (.ref CB) = some true ∧ PySem.W.kitOne K (.ref C) (.ref CF) = some b ∧ V.bl b = V.bl (decide (V.int κ.P = V.int 0)):=by
  cases κ with
  | q =>
    obtain ⟨dx,h⟩:=hk
    exact ⟨CF,true,kc.tF.ty kd.clF h,kc.b.yes kc.fb,ZgM,rfl⟩
  | r p hp =>
    obtain ⟨dx,h⟩:=hk
    refine ⟨CR,false,kc.tR.ty kd.clR h,kc.b.yes kc.rb,kc.f.no kc.rf,?_⟩
    have:0 < (KX.r p hp).P:=Zgg
    rw [decide_eq_false (fun z => by have:=V.int.inj z; omega)]
def sp_law (K:PySem.W.Frag):Sp:=fun vs H Q _ => ∃ (a:Addr) (ns:List Int),vs = [.ref a] ∧ SqL K H a (ns.map V.int) ∧ ns.length ≤ 63 ∧ (∀ i ∈ ns,Bits 1048576 i) ∧ ∀ H',Q (.bl true) H'
theorem ZlT {C C' G X:Hp → V → Prop} (h:(∀ H a,C' H a → G H a) → ∀ H a,C H a → X H a) (hG:∀ H a,C' H a → G H a):∀ H a,C H a → X H a:=h hG
theorem Znk {κ:KX} (h:κ.P = 0):κ = .q:=by
  cases κ with
  | q => rfl
  | r p hp =>
    have:0 < (KX.r p hp).P:=Zgg
    omega
theorem ZjQ (c:Int):∃ m:Nat,atI [V.int 5,V.int 5,V.int 5,V.int 1] (c % 4) = some (.int (m:Int)) ∧ m ≤ 5:=by
  rcases (by omega:c % 4 = 0 ∨ c % 4 = 1 ∨ c % 4 = 2 ∨ c % 4 = 3) with e | e | e | e <;> rw [e]
  · exact ⟨5,rfl,by decide⟩
  · exact ⟨5,rfl,by decide⟩
  · exact ⟨5,rfl,by decide⟩
  · exact ⟨1,rfl,by decide⟩
theorem Zi5 {κ:KX} {f:List κ.F} {m:Nat} (t:Trm f) (l:f.length ≤ m) (h:m ≤ 5) (q:∀ x ∈ f,QN κ 12 108 x):PolN f:=⟨t,by omega,fun x hx => by
  have:=QN.upN (D:=12) (c:=12) (by decide) (by decide) (q x hx)
  exact this.mono (by decide)⟩
def PlN (κ:KX) (H:Hp) (v:V):Prop:=∃ (a:Addr) (xs:List V) (f:List κ.F),v = .ref a ∧ PolL κ H a xs f ∧ PolN f
section
variable {P:Program} {w:World} {K:PySem.W.Frag} {mg:Str → Option Value} {base:Heap} {CP CF CR CB cN:Addr}
theorem sc_law:FnScope ["_law_script", "_law_cells", "_law_prime_here", "_law_polys", "_law_k", "_law_f", "_law_g", "_law_handed", "_law_top", "_law_bottom", "_law_told"] ["_law_script"] (Zag Zk2):=⟨rfl,rfl,rfl,by decide +kernel,rfl,by decide +kernel,by decide +kernel⟩
theorem ZlU {f:Addr} {fd:FuncData} (F:Fun K "law" "law" Zk2 f fd) (T:Nm mg) (kd:Kd K mg CF CR) (kc:Kc K mg CF CR CB) (kp:Kp K CP CB) (pc:Pc K mg CP) (hI:HasI P w K mg base CP 1 ["self", "under"] (Zg7 CP)) (hN1:HasMX P w K mg base CP "number" 8 ["self", "top", "bottom"] [.int 1] (Zbg CP CF CR cN)) (h_l_prime_by:Has P w K mg base "_law_prime_by" 8 ["_law_cell"] Zc2) (h_l_kind:Has P w K mg base "_law_kind" 8 ["_law_prime_here"] (ZfP CF CR)) (h_l_poly:Has P w K mg base "_law_poly" 8 ["_law_prime_here", "_law_cell", "_law_most"] ZfL) (h_l_sums:Has P w K mg base "_law_sums" 8 ["_law_polys", "_law_prime_here", "_law_f", "_law_g"] (ZfR CP CF CR)) (h_l_backs:Has P w K mg base "_law_backs" 8 ["_law_polys", "_law_prime_here", "_law_f", "_law_g"] (ZeF CP CF CR)) (h_l_asked:Has P w K mg base "_law_asked" 8 ["_law_polys", "_law_prime_here", "_law_f", "_law_cell"] (ZeG CP CF CR)) (h_l_number:Has P w K mg base "_law_number" 8 ["_law_polys", "_law_prime_here", "_law_top", "_law_bottom"] (Zdd CP CF CR)):FnOk P w K mg base CX0 9 f fd ["_law_script"] (sp_law K):=by
  refine F.ok sc_law (fun vs H Q E h => ?_) (fun cdv A outer s H vs Q E hr h => ?_)
  · obtain ⟨_,_,rfl,_⟩:=h
    rfl
  obtain ⟨a,ns,rfl,hS,hl,hb,k⟩:=h
  have nd:=sc_law.nd
  refine ⟨_,(Zad (Zas (i:=1) nd rfl (Or.inl rfl) (Zaj ZcS (Zbt ZbY (pv 0) Zce (ZbO Zac)) (ZaJ (Zaa Zac (Zaa Zac Zab)))))
    (Zad (Zas (i:=2) nd rfl (Or.inl rfl) (Zam h_l_prime_by hr (by rfl) (Zaa (Zar Zaw (pv 1) Zac (fun _ _ => rfl)) Zab)))
    (Zad (Zas (i:=3) nd rfl (Or.inl rfl) (ZgJ hI (hr.mono (by decide)) (by rfl) pc.m (Zaa (Zam h_l_kind hr (by rfl) (Zaa (pv 2) Zab)) Zab)))
    (Zad (ZaC (ZbW (ZaN (ZaD (Zak Zau (by rfl) T.isinstance boot_isinstance (Zaa (pv 3) (Zaa (Zbl (v:=.ref CB) (by rfl) kc.b.m rfl) Zab))))) (ZbF (ZaN (ZaD (Zak Zau (by rfl) T.isinstance boot_isinstance (Zaa (Zbj (pv 3) rfl) (Zaa (Zbl (v:=.ref CB) (by rfl) kc.b.m rfl) Zab))))))).pt (Zae (Zai ZaX)) Zao)
    (Zad (ZaC (Zap ZdG (Zak Zau (by rfl) T.isinstance boot_isinstance (Zaa (Zbj (pv 3) rfl) (Zaa (Zbl (v:=.ref CF) (by rfl) kc.f.m rfl) Zab))) (ZaR Zbi (pv 2) Zac (Zan _)) (Zan _)) (Zae (Zai ZaX)) Zao)
    (Zad (ZcD PassesOwn.never rfl (ZbA (by rfl) T.range (Zaa (Zaj ZbN (Zak Zal (by rfl) T.len boot_len (Zaa (pv 1) Zab)) Zac) Zab)) (ZaH (i:=4) nd rfl (Or.inl rfl)) (Zad (Zas (i:=5) nd rfl (Or.inl rfl) (Zam h_l_poly hr (by rfl) (Zaa (pv 2) (Zaa (Zar Zaw (pv 1) (Zaj ZbS Zac (pv 4)) (fun _ _ => rfl)) (Zaa Zac Zab)))))
      (Zad (Zas (i:=6) nd rfl (Or.inl rfl) (Zam h_l_poly hr (by rfl) (Zaa (pv 2) (Zaa (Zar Zaw (pv 1) (Zaj ZaP (Zaj ZbS Zac (pv 4)) Zac) (fun _ _ => rfl)) (Zaa (Zar Zaw (ZaJ (Zaa Zac (Zaa Zac (Zaa Zac (Zaa Zac Zab))))) (Zaj Za3 (Zar Zaw (pv 1) (Zaj ZbS Zac (pv 4)) (fun _ _ => rfl)) Zac) (fun _ _ => rfl)) Zab)))))
      (Zad (ZaC (Zgx (Zap Zbi (pv 2) Zac (Zan _)) (Zgx (Zap Zbi (Zaj Za3 (Zar Zaw (pv 1) (Zaj ZaP (Zaj ZbS Zac (pv 4)) Zac) (fun _ _ => rfl)) Zac) Zac (Zan _)) (ZfW (Zap ZfZ (Zak Zal (by rfl) T.len boot_len (Zaa (pv 5) Zab)) Zac (Zan _))))).pt (Zae (Zas (i:=5) nd rfl (Or.inl rfl) (Zaj ZcS (ZaJ (Zaa (Zbs (Zaa (Zaj Za3 (Zaj ZbN (Zar Zaw (pv 1) (Zaj ZaP (Zaj ZbS Zac (pv 4)) Zac) (fun _ _ => rfl)) Zac) (Zaj Zlj Zac Zac)) (Zaa Zac Zab))) Zab)) (Zbt ZbY (pv 5) (ZbO Zac) Zce)))) Zao)
      (Zad (Zas (i:=7) nd rfl (Or.inl rfl) (ZaJ (Zaa (ZbC Za1 (by rfl) T.list boot_list (Zaa (pv 5) Zab)) (Zaa (ZbC Za1 (by rfl) T.list boot_list (Zaa (pv 6) Zab)) Zab))))
      (Zad (ZaC (ZbW (ZaN (ZaD (Zam h_l_sums hr (by rfl) (Zaa (pv 3) (Zaa (pv 2) (Zaa (Zar Zaw (pv 7) Zac (fun _ _ => rfl)) (Zaa (Zar Zaw (pv 7) Zac (fun _ _ => rfl)) Zab))))))) (ZbF (ZaN (ZaD (Zam h_l_sums hr (by rfl) (Zaa (pv 3) (Zaa (pv 2) (Zaa (Zar Zaw (pv 7) Zac (fun _ _ => rfl)) (Zaa (Zar Zaw (pv 7) Zac (fun _ _ => rfl)) Zab))))))))).pt (Zae (Zai ZaX)) Zao)
      (Zad (ZaC (ZbW (ZaN (ZaD (Zam h_l_backs hr (by rfl) (Zaa (pv 3) (Zaa (pv 2) (Zaa (Zar Zaw (pv 7) Zac (fun _ _ => rfl)) (Zaa (Zar Zaw (pv 7) Zac (fun _ _ => rfl)) Zab))))))) (ZbF (Zap (Zik hr) (pv 7) (ZaJ (Zaa (pv 5) (Zaa (pv 6) Zab))) (Zan _)))).pt (Zae (Zai ZaX)) Zao)
      (Zad (Zas (i:=8) nd rfl (Or.inl rfl) (Zaj ZbB (Zaj Za3 (Zar Zaw (pv 1) (Zaj ZbS Zac (pv 4)) (fun _ _ => rfl)) Zac) Zac))
      (Zad (Zas (i:=9) nd rfl (Or.inl rfl) (Zaj ZbB (Zaj Za3 (Zaj ZbN (Zar Zaw (pv 1) (Zaj ZaP (Zaj ZbS Zac (pv 4)) Zac) (fun _ _ => rfl)) Zac) Zac) Zac))
      (Zad (Zas (i:=10) nd rfl (Or.inl rfl) (ZaL (pv 3) ZeQ hr (Zaa Zac Zab)))
      (Zad (Zcd (ZhZ PySem.F.plainAttrs_list PySem.F.slot_list_append PySem.F.type_list_append Zcf (pv 10) (Zaa ZdE Zab)))
      (Zae (ZaC (ZbW (ZaN (ZaD (Zam h_l_asked hr (by rfl) (Zaa (pv 3) (Zaa (pv 2) (Zaa (pv 5) (Zaa (Zaj ZbN (Zar Zaw (pv 1) (Zaj ZbS Zac (pv 4)) (fun _ _ => rfl)) Zac) Zab))))))) (ZbF (ZaN (ZaD (Zam h_l_number hr (by rfl) (Zaa (pv 3) (Zaa (pv 2) (Zaa (pv 8) (Zaa (pv 9) Zab))))))))).pt (Zae (Zai ZaX)) Zao)))))))))))))
    (Zae (Zai ZaX)))))))),?_⟩
  refine ⟨_,rfl,63,rfl,a,_,rfl,hS,fun p hp => ?_⟩
  refine ⟨(by show 2 ≤ sizeLine; decide),fun q hq => ?_⟩
  obtain ⟨cs,ec,l1,l2⟩:∃ cs:List Int,Zfq (ns.map V.int) none (some 63) ++ [.int 0,.int 0] = cs.map V.int ∧ 1 ≤ cs.length ∧ cs.length ≤ 65:=by
    refine ⟨ns.take 63 ++ [0,0],?_,?_,?_⟩
    · have e:=Zd6 (ns.map V.int) 63
      rw [← List.map_take] at e
      rw [List.map_append]
      exact congrArg (· ++ [V.int 0,V.int 0]) e
    · rw [List.length_append]; show 1 ≤ _ + 2; omega
    · rw [List.length_append,List.length_take]; show _ + 2 ≤ 65; omega
  refine ⟨p,q,_,_,rfl,rfl,by rw [Zat (Zav Zaf hq)]; exact Zaf,Zaf,?_,fun c hc => ?_⟩
  · have z:=congrArg List.length ec
    rw [List.length_append,List.length_map] at z
    have z2:(65:Nat) ≤ sizeLine:=by decide
    show _ + 2 ≤ sizeLine
    have z3:(Zfq (ns.map V.int) none (some 63)).length + 2 = cs.length:=z
    omega
  rw [ec]
  generalize hH0:upd (upd (upd H p (.lst (Zfq (ns.map V.int) none (some 63)))) q (.lst [.int 0,.int 0])) c (.lst (cs.map V.int)) = H0
  have hc0:H0 c = some (.lst (cs.map V.int)):=by rw [← hH0]; exact Zaf
  have c0:atI (cs.map V.int) 0 = some (.int cs[0]):=Zip (i:=0) (by omega)
  refine ⟨_,rfl,_,_,_,_,rfl,rfl,SqL.of hc0,c0,_,rfl,fun H1 pr S1 pk => ?_⟩
  refine ⟨_,rfl,pr,rfl,pk,fun H2 kk S2 kd2 => ?_⟩
  obtain ⟨κ,rfl,kx2⟩:=Zly kd2
  have hc2:=(S1.trans S2) _ _ hc0
  clear hH0 hc0 S1 S2
  refine fun po dxp npo ndxp nexp => ⟨po,dxp,kk,rfl,Zaf,rfl,?_⟩
  have Sx:∀ o1 o2 o3,Same H2 (upd (upd (upd H2 dxp o1) po o2) po o3):=fun _ _ _ b o e => by
    rw [Zat (Zav e npo),Zat (Zav e npo),Zat (Zav e ndxp)]; exact e
  refine Znj (i:=3) (C:=fun H3 => Same H2 H3 ∧ H3 po = some (.ins CP dxp [("under", .ref kk)])) ?one ?two
  case two => exact ⟨Sx _ _ _,Zaf⟩
  rintro H3 ⟨S3,hpo⟩
  have kx3:=kx2.same S3
  have hc3:=S3 _ _ hc2
  obtain ⟨C1,b1,ty1,k1,k2,eb⟩:=Zmw kd kc kx3
  refine ⟨_,rfl,_,_,_,_,rfl,kp.t.ty pc.cl hpo,.ref (kc.b.yes kp.b),_,rfl,ZbE ?_⟩
  refine ⟨_,rfl,po,CP,dxp,_,_,rfl,hpo,pc.cl,pc.nU,rfl,_,_,_,_,rfl,ty1,.ref k1,_,rfl,ZbE ?_⟩
  refine ⟨_,rfl,po,CP,dxp,_,_,rfl,hpo,pc.cl,pc.nU,rfl,_,_,_,_,rfl,ty1,.ref k2,_,rfl,rfl,rfl,_,rfl,?_⟩
  refine Zf2 (fun e => absurd eb e) (fun _ => ?_)
  clear eb ty1 k1 k2 Sx
  have poa:∀ {H4},Same H3 H4 → PoA CP CF CR κ H4 po:=fun {H4} S => ⟨dxp,kk,S _ _ hpo,kx3.same S⟩
  refine ⟨_,rfl,c,_,rfl,.inl (SqL.of hc3),_,_,rfl,rfl,⟨by decide,by decide⟩,?_⟩
  obtain ⟨n,hn⟩:∃ n:Nat,n = cs.length / 2:=⟨_,rfl⟩
  have en:((cs.map V.int).length:Int) / 2 = (n:Int):=by rw [List.length_map]; omega
  refine ⟨(n:Int),(by rw [← en]),by omega,by omega,?_⟩
  rw [Int.toNat_natCast]
  refine ZcQ (lo:=0) (n:=n) (fun i σ H4 => ∃ z4 z5 z6 z7 z8 z9 z10:Option V,σ = [some (.ref a),some (.ref c),some (.int κ.P),some (.ref po),z4,z5,z6,z7,z8,z9,z10] ∧ Same H3 H4) ⟨_,_,_,_,_,_,_,rfl,Same.refl _⟩ ?_ ?_
  case refine_2 =>
    rintro σ H4 ⟨z4,z5,z6,z7,z8,z9,z10,rfl,S4⟩
    exact k H4
  rintro i σ H4 hi ⟨z4,z5,z6,z7,z8,z9,z10,rfl,S4⟩
  have i0:2 * i < cs.length:=by omega
  have i1:2 * i + 1 < cs.length:=by omega
  have at0:atI (cs.map V.int) (2 * (0 + (i:Int))) = some (.int cs[2 * i]):=by
    rw [show 2 * (0 + (i:Int)) = ((2 * i:Nat):Int) by omega]; exact Zip i0
  have at1:atI (cs.map V.int) (2 * (0 + (i:Int)) + 1) = some (.int cs[2 * i + 1]):=by
    rw [show 2 * (0 + (i:Int)) + 1 = ((2 * i + 1:Nat):Int) by omega]; exact Zip i1
  generalize cs[2 * i] = d0 at *
  generalize cs[2 * i + 1] = d1 at *
  have hc4:=S4 _ _ hc3
  refine ⟨_,rfl,_,rfl,_,rfl,_,_,rfl,rfl,.inl ⟨by decide,by decide⟩,c,_,_,_,rfl,rfl,SqL.of hc4,at0,κ,d0,5,rfl,by decide,fun H5 fa xs Ff S5 pF lF tF qF => ?_⟩
  have hc5:=S5 _ _ hc4
  obtain ⟨m,em,m5⟩:=ZjQ d0
  refine ⟨_,rfl,_,rfl,_,rfl,_,_,rfl,rfl,.inl ⟨by decide,by decide⟩,_,_,rfl,rfl,c,_,_,_,rfl,rfl,SqL.of hc5,at1,(by show 4 ≤ sizeLine; decide),fun l nl => ?_⟩
  have Sl:=Zah nl (.lst [.int 5,.int 5,.int 5,.int 1])
  have ql:=Zaf (H:=H5) (a:=l) (o:=.lst [.int 5,.int 5,.int 5,.int 1])
  generalize upd H5 l (.lst [.int 5,.int 5,.int 5,.int 1]) = H6 at *
  refine ⟨_,rfl,_,rfl,_,_,rfl,rfl,.inl ⟨by decide,by decide⟩,c,_,_,_,rfl,rfl,SqL.of (Sl _ _ hc5),at0,_,_,rfl,rfl,(by show (0:Int) < _; decide),l,_,_,_,rfl,rfl,SqL.of ql,em,κ,d1,m,rfl,by omega,fun H7 ga ys Gg S7 pG lG tG qG => ?_⟩
  have S57:=Sl.trans S7
  have nG:=Zi5 tG lG m5 qG
  have dA:Same H3 H7 ∧ PlN κ H7 (.ref fa) ∧ PolL κ H7 ga ys Gg:=⟨S4.trans (S5.trans S57),⟨fa,xs,Ff,rfl,pF.same S57,Zi5 tF lF (by decide) qF⟩,pG⟩
  generalize V.ref fa = vf at *
  clear pF lF tF qF pG lG tG qG S4 S5 S57 hc4 hc5 ql S7 Sl nl
  revert H7 vf
  refine' ZlT (C:=fun H7 vf => Same H3 H7 ∧ PlN κ H7 vf ∧ PolL κ H7 ga ys Gg) (C':=fun H7 vf => Same H3 H7 ∧ PlN κ H7 vf ∧ PolL κ H7 ga ys Gg) (fun k1 H7 vf dA => ?first) ?second
  case first =>
    obtain ⟨S7,⟨fa,xs,ff,e1,pF,nF⟩,pG⟩:=dA
    refine ⟨_,rfl,rfl,_,rfl,?_⟩
    refine ZbD (fun zp => ?_) (fun _ => k1 H7 vf ⟨S7,⟨fa,xs,ff,e1,pF,nF⟩,pG⟩)
    obtain rfl:=Znk zp
    have hc7:=S7 _ _ hc3
    refine ⟨_,rfl,_,rfl,_,_,rfl,rfl,.inl ⟨by decide,by decide⟩,_,_,rfl,rfl,c,_,_,_,rfl,rfl,SqL.of hc7,at1,_,_,rfl,rfl,(by show (0:Int) < _; decide),rfl,_,rfl,?_⟩
    refine ZbD (fun _ => ?_) (fun _ => k1 H7 vf ⟨S7,⟨fa,xs,ff,e1,pF,nF⟩,pG⟩)
    have lx:=pF.al.1
    refine ⟨_,rfl,fa,_,(by rw [e1]),.inl (SqL.of pF.l),_,_,rfl,rfl,_,rfl,?_⟩
    refine ZbI (fun z1 => ?_) (fun _ => k1 H7 vf ⟨S7,⟨fa,xs,ff,e1,pF,nF⟩,pG⟩)
    have z1:(1:Int) < (xs.length:Int):=z1
    have tb:0 ≤ d1 / 4 % (10:Int) ^ (60:Int).toNat ∧ d1 / 4 % (10:Int) ^ (60:Int).toNat < 10 ^ 60:=by
      exact ⟨Int.emod_nonneg _ (by decide),Int.emod_lt_of_pos _ (by decide)⟩
    obtain ⟨x,x1,x2⟩:=ZfJ (n:=d1 / 4 % (10:Int) ^ (60:Int).toNat) (d:=1) ⟨by decide,by rw [Int.gcd_one]⟩
    refine ⟨_,rfl,_,rfl,_,_,rfl,rfl,.inl ⟨by decide,by decide⟩,_,_,rfl,rfl,c,_,_,_,rfl,rfl,SqL.of hc7,at1,_,_,rfl,rfl,⟨by decide,by decide⟩,_,_,rfl,rfl,⟨by decide,by decide,by decide⟩,_,_,rfl,rfl,(by show (0:Int) < _; decide),(by show 2 ≤ sizeLine; decide),fun tp ntp => ?_⟩
    show ZlW _ (upd H7 tp (.tup [.int (d1 / 4 % (10:Int) ^ (60:Int).toNat),.int 1])) _
    have St:=Zah ntp (.tup [.int (d1 / 4 % (10:Int) ^ (60:Int).toNat),.int 1])
    have qt:=Zaf (H:=H7) (a:=tp) (o:=.tup [.int (d1 / 4 % (10:Int) ^ (60:Int).toNat),.int 1])
    generalize upd H7 tp (.tup [.int (d1 / 4 % (10:Int) ^ (60:Int).toNat),.int 1]) = H8 at *
    refine ⟨(by show 1 ≤ sizeLine; decide),fun l nl => ?_⟩
    have Sl:=Zah nl (.lst [.ref tp])
    have ql:=Zaf (H:=H8) (a:=l) (o:=.lst [.ref tp])
    generalize upd H8 l (.lst [.ref tp]) = H9 at *
    refine ⟨_,rfl,1,rfl,fa,_,e1,SqL.of ((St.trans Sl) _ _ pF.l),fun sl nsl => ?_⟩
    rw [show Zfq xs (some 1) none = xs.drop 1 from Zc1 xs 1]
    have Ss:=Zah nsl (.lst (xs.drop 1))
    have qs:=Zaf (H:=H9) (a:=sl) (o:=.lst (xs.drop 1))
    generalize upd H9 sl (.lst (xs.drop 1)) = Ha at *
    have l5:=nF.l
    refine ⟨l,sl,[.ref tp],xs.drop 1,rfl,rfl,Ss _ _ ql,qs,Nat.le_trans (show 1 + (xs.drop 1).length ≤ 1000 by rw [List.length_drop]; omega) (by decide),fun cc ncc => ?_⟩
    have Sc:=Zah ncc (.lst ([.ref tp] ++ xs.drop 1))
    have qc:=Zaf (H:=Ha) (a:=cc) (o:=.lst ([.ref tp] ++ xs.drop 1))
    generalize upd Ha cc (.lst ([.ref tp] ++ xs.drop 1)) = Hb at *
    have S8b:=Sl.trans (Ss.trans Sc)
    have S7b:=St.trans S8b
    have nx:NR .q Hb (.ref tp) x:=⟨tp,rfl,by rw [S8b _ _ qt,x1,x2]⟩
    have lnew:([x] ++ ff.drop 1).length = ff.length:=by rw [List.length_append,List.length_drop]; show 1 + _ = _; omega
    have pnew:PlN .q Hb (.ref cc):=⟨cc,_,[x] ++ ff.drop 1,rfl,⟨qc,AllG.append (xs:=[.ref tp]) (.one nx) (ZjN (pF.al.mono fun _ _ n => n.same S7b) 1)⟩,Zk1 nF.t (by omega),by omega,fun y hy => by
      rcases List.mem_append.mp hy with z | z
      · rw [List.mem_singleton.mp z]; exact ZjO tb.1 tb.2 x1 x2
      · exact nF.s y (List.mem_of_mem_drop z)⟩
    exact k1 Hb (.ref cc) ⟨S7.trans S7b,pnew,pG.same S7b⟩
  case second =>
  rintro H7 vf ⟨S7,⟨fa,xs,ff,rfl,pF,nF⟩,pG⟩
  refine ⟨_,rfl,fa,xs,rfl,.inl (SqL.of pF.l),fun l1 nl1 => ?_⟩
  have Sl1:=Zah nl1 (.lst xs)
  have q1:=Zaf (H:=H7) (a:=l1) (o:=.lst xs)
  generalize upd H7 l1 (.lst xs) = H8 at *
  refine ⟨_,rfl,ga,ys,rfl,.inl (SqL.of (Sl1 _ _ pG.l)),fun l2 nl2 => ?_⟩
  have Sl2:=Zah nl2 (.lst ys)
  have q2:=Zaf (H:=H8) (a:=l2) (o:=.lst ys)
  generalize upd H8 l2 (.lst ys) = H9 at *
  refine ⟨(by show 2 ≤ sizeLine; decide),fun hd nhd => ?_⟩
  have Sh:=Zah nhd (.lst [.ref l1,.ref l2])
  have qh:=Zaf (H:=H9) (a:=hd) (o:=.lst [.ref l1,.ref l2])
  generalize upd H9 hd (.lst [.ref l1,.ref l2]) = Ha at *
  have S7a:=Sl1.trans (Sl2.trans Sh)
  have pl1:PolL κ Ha l1 xs ff:=⟨(Sl2.trans Sh) _ _ q1,pF.al.mono fun _ _ n => n.same S7a⟩
  have pl2:PolL κ Ha l2 ys Gg:=⟨Sh _ _ q2,pG.al.mono fun _ _ n => n.same S7a⟩
  have S3a:=S7.trans S7a
  refine ⟨_,rfl,_,rfl,_,rfl,hd,_,0,_,rfl,rfl,SqL.of qh,rfl,_,rfl,hd,_,1,_,rfl,rfl,SqL.of qh,rfl,κ,po,l1,l2,xs,ys,ff,Gg,rfl,poa S3a,pl1,pl2,nF,nG,fun Hb Sb => ⟨_,rfl,ZbE ?_⟩⟩
  have qhb:=Sb _ _ qh
  refine ⟨_,rfl,_,rfl,_,rfl,hd,_,1,_,rfl,rfl,SqL.of qhb,rfl,_,rfl,hd,_,0,_,rfl,rfl,SqL.of qhb,rfl,κ,po,l2,l1,ys,xs,Gg,ff,rfl,poa (S3a.trans Sb),pl2.same Sb,pl1.same Sb,nG,nF,fun Hc Sc => ⟨_,rfl,ZbE ?_⟩⟩
  have Sac:=Sb.trans Sc
  have qhc:=Sac _ _ qh
  refine ⟨_,rfl,_,rfl,_,rfl,hd,_,0,_,rfl,rfl,SqL.of qhc,rfl,_,rfl,hd,_,1,_,rfl,rfl,SqL.of qhc,rfl,κ,po,l1,l2,xs,ys,ff,Gg,rfl,poa (S3a.trans Sac),pl1.same Sac,pl2.same Sac,nF,nG,fun Hd Sd => ⟨_,rfl,ZbE ?_⟩⟩
  have Sad:=Sac.trans Sd
  have S7d:=S7a.trans Sad
  refine ⟨_,rfl,_,rfl,_,rfl,(by show 2 ≤ sizeLine; decide),fun w1 nw1 => ?_⟩
  have Sw:=Zah nw1 (.lst [.ref fa,.ref ga])
  have qw:=Zaf (H:=Hd) (a:=w1) (o:=.lst [.ref fa,.ref ga])
  generalize upd Hd w1 (.lst [.ref fa,.ref ga]) = He at *
  have Sae:=Sad.trans Sw
  have S7e:=S7a.trans Sae
  refine ⟨_,Zkh (pl1.same Sae) (pl2.same Sae) (Sae _ _ qh),Zkh (pF.same S7e) (pG.same S7e) qw,_,rfl,ZbE ?_⟩
  have S3e:=S7.trans S7e
  have hce:=S3e _ _ hc3
  refine ⟨_,rfl,_,rfl,_,_,rfl,rfl,.inl ⟨by decide,by decide⟩,c,_,_,_,rfl,rfl,SqL.of hce,at0,_,_,rfl,rfl,(by show (0:Int) < _; decide),_,_,rfl,rfl,?_⟩
  refine ⟨_,rfl,_,rfl,_,_,rfl,rfl,.inl ⟨by decide,by decide⟩,_,_,rfl,rfl,c,_,_,_,rfl,rfl,SqL.of hce,at1,_,_,rfl,rfl,⟨by decide,by decide⟩,_,_,rfl,rfl,(by show (0:Int) < _; decide),_,_,rfl,rfl,?_⟩
  refine ⟨_,rfl,po,CP,dxp,_,_,_,_,rfl,S3e _ _ hpo,pc.cl,hN1,rfl,κ,po,1,1,1,1,rfl,poa S3e,Zgj,Zgj,by decide,(fun q => absurd q Zda),fun _ Hf R zs T' z Sf nR pT tT eT lT ez qz => ?_⟩
  have lz:=pT.al.1
  refine ⟨_,rfl,.inl ⟨rfl,_,SqL.of pT.l⟩,R,zs,.non,rfl,rfl,pT.l,Nat.lt_of_lt_of_le (show zs.length < 1000 by omega) (by decide),?_⟩
  have O:Off [R] Hf (upd Hf R (.lst (zs ++ [.non]))):=Ze3 (Same.refl Hf)
  have Seg:Same He (upd Hf R (.lst (zs ++ [.non]))):=Off.same O Sf (fun z hz => by rw [List.mem_singleton.mp hz]; exact nR)
  generalize upd Hf R (.lst (zs ++ [.non])) = Hg at *
  have S7g:=S7e.trans Seg
  have S3g:=S7.trans S7g
  refine ⟨_,rfl,_,rfl,_,rfl,_,rfl,_,rfl,_,_,rfl,rfl,.inl ⟨by decide,by decide⟩,c,_,_,_,rfl,rfl,SqL.of (S3g _ _ hc3),at0,_,_,rfl,rfl,⟨by decide,by decide⟩,κ,po,fa,xs,ff,_,rfl,poa S3g,pF.same S7g,nF,fun Hh Sh2 => ⟨_,rfl,ZbE ?_⟩⟩
  refine ⟨_,rfl,_,rfl,_,rfl,_,rfl,κ,po,d0 % 13 - 6,d1 / 5 % 13 - 6,rfl,poa (S3g.trans Sh2),by omega,by omega,fun Hi Si => ⟨_,rfl,ZbE ?_⟩⟩
  exact ⟨_,_,_,_,_,_,_,rfl,S3g.trans (Sh2.trans Si)⟩
end
end My
namespace PySem.W.Fast
theorem tw6091471667903035456:True:=⟨⟩
theorem tw205139769463516256:True:=⟨⟩
theorem tw11641120154861699264:True:=⟨⟩
theorem tw7761200752571477216:True:=⟨⟩
theorem tw3100968464125785344:True:=⟨⟩
theorem tw9418759482156910880:True:=⟨⟩
theorem tw3143936687532609824:True:=⟨⟩
theorem tw6512241692174559520:True:=⟨⟩
theorem tw986283212324963648:True:=⟨⟩
theorem tw7532816161239812480:True:=⟨⟩
theorem tw2831019021692377504:True:=⟨⟩
theorem tw6792517010348000704:True:=⟨⟩
theorem tw2202808114190417376:True:=⟨⟩
theorem tw12065083616444364256:True:=⟨⟩
theorem tw16878843322162133504:True:=⟨⟩
theorem tw4057943702983471648:True:=⟨⟩
theorem tw9616567272474908256:True:=⟨⟩
theorem tw7517803411232898656:True:=⟨⟩
theorem tw11386646638923391648:True:=⟨⟩
theorem tw9905089315975442080:True:=⟨⟩
theorem tw14270556530162663072:True:=⟨⟩
theorem tw7274367221281113824:True:=⟨⟩
theorem tw16126447763922374528:True:=⟨⟩
theorem tw12302544448938630145:True:=⟨⟩
theorem tw14433760165444159553:True:=⟨⟩
theorem tw4509037676195584097:True:=⟨⟩
theorem tw6208524851053611105:True:=⟨⟩
theorem tw10450159123864844385:True:=⟨⟩
theorem tw6128458905896736897:True:=⟨⟩
theorem tw1730529400963053697:True:=⟨⟩
theorem tw3869840648346536097:True:=⟨⟩
theorem tw14618750414723638465:True:=⟨⟩
theorem tw15174741194082585825:True:=⟨⟩
theorem tw1693954748606872833:True:=⟨⟩
theorem tw7854355936559925537:True:=⟨⟩
theorem tw12924185255225407777:True:=⟨⟩
theorem tw5724151717255504193:True:=⟨⟩
theorem tw6236639472915146081:True:=⟨⟩
theorem tw14367875867363770785:True:=⟨⟩
theorem tw14056208072942312929:True:=⟨⟩
theorem tw11996747483008428513:True:=⟨⟩
theorem tw10775999034313536001:True:=⟨⟩
theorem tw13496071155621710465:True:=⟨⟩
theorem tw16850508369558822529:True:=⟨⟩
theorem tw16038620909646497441:True:=⟨⟩
theorem tw14774991040307355297:True:=⟨⟩
theorem tw4237604050270500609:True:=⟨⟩
theorem tw15536481222388906753:True:=⟨⟩
theorem tw11163039503493896961:True:=⟨⟩
theorem tw7871704301988073249:True:=⟨⟩
theorem tw4643528161083208481:True:=⟨⟩
theorem tw12195360284511147969:True:=⟨⟩
theorem tw13350312928608049121:True:=⟨⟩
theorem tw14440348361882545121:True:=⟨⟩
theorem tw13517140672800691202:True:=⟨⟩
theorem tw11409625774159339554:True:=⟨⟩
theorem tw9309648898121081890:True:=⟨⟩
theorem tw9620071768378571874:True:=⟨⟩
theorem tw10066637642074462370:True:=⟨⟩
theorem tw3534731928299604162:True:=⟨⟩
theorem tw6619421634788694210:True:=⟨⟩
theorem tw5747759937366446306:True:=⟨⟩
theorem tw12675034960180112706:True:=⟨⟩
theorem tw410975544638599490:True:=⟨⟩
theorem tw7082553664789133666:True:=⟨⟩
theorem tw14202330350096925058:True:=⟨⟩
theorem tw7838257684198983042:True:=⟨⟩
theorem tw15484404986009412098:True:=⟨⟩
theorem tw10397335796896387586:True:=⟨⟩
theorem tw16354108331972534850:True:=⟨⟩
theorem tw9512662202681205314:True:=⟨⟩
theorem tw12455125372372791906:True:=⟨⟩
theorem tw12874031742533829346:True:=⟨⟩
theorem tw15752435421048135458:True:=⟨⟩
theorem tw3204413586508769090:True:=⟨⟩
theorem tw17918499539401728834:True:=⟨⟩
theorem tw5776279888105176994:True:=⟨⟩
theorem tw9991455695108054978:True:=⟨⟩
theorem tw6647007517617194211:True:=⟨⟩
theorem tw8816054543059539235:True:=⟨⟩
theorem tw917240751524045091:True:=⟨⟩
theorem tw14221345880813304099:True:=⟨⟩
theorem tw15124125088361749827:True:=⟨⟩
theorem tw344099859795157315:True:=⟨⟩
theorem tw6143634399695462723:True:=⟨⟩
theorem tw9614140545125421475:True:=⟨⟩
theorem tw3166743594865507747:True:=⟨⟩
theorem tw4801602772462522787:True:=⟨⟩
theorem tw15717850486714482147:True:=⟨⟩
theorem tw8145113195919134275:True:=⟨⟩
theorem tw2694437153629870755:True:=⟨⟩
theorem tw14414362897497159331:True:=⟨⟩
theorem tw7449179553693936291:True:=⟨⟩
theorem tw13128565640419979011:True:=⟨⟩
theorem tw7452024488716039939:True:=⟨⟩
theorem tw3060185430487726851:True:=⟨⟩
theorem tw3236124848488928035:True:=⟨⟩
theorem tw9841308842527484707:True:=⟨⟩
theorem tw14416627338623395651:True:=⟨⟩
theorem tw10463095488263373635:True:=⟨⟩
theorem tw6886139029089334115:True:=⟨⟩
theorem tw8713012753304902499:True:=⟨⟩
theorem tw11301262579841949603:True:=⟨⟩
theorem tw15229126381518390211:True:=⟨⟩
theorem tw5438902898926951524:True:=⟨⟩
theorem tw7680860953909405828:True:=⟨⟩
theorem tw12522936558775434372:True:=⟨⟩
theorem tw10746440749215277220:True:=⟨⟩
theorem tw1799922906684908740:True:=⟨⟩
theorem tw2086126458624667876:True:=⟨⟩
theorem tw16141806017867541764:True:=⟨⟩
theorem tw5480670347681463556:True:=⟨⟩
theorem tw17529683598345465124:True:=⟨⟩
theorem tw7845770459125739876:True:=⟨⟩
theorem tw16895078541823242692:True:=⟨⟩
theorem tw15046710467346693572:True:=⟨⟩
theorem tw16259723077421524452:True:=⟨⟩
theorem tw18030647665482332644:True:=⟨⟩
theorem tw317000252514807300:True:=⟨⟩
theorem tw6878369709714117156:True:=⟨⟩
theorem tw13949655284177034852:True:=⟨⟩
theorem tw11035402839614504580:True:=⟨⟩
theorem tw5463739062991606468:True:=⟨⟩
theorem tw2526173336300909316:True:=⟨⟩
theorem tw9808474782625880868:True:=⟨⟩
theorem tw17737183161666764612:True:=⟨⟩
theorem tw4769951489752929124:True:=⟨⟩
theorem tw16795056091699026852:True:=⟨⟩
theorem tw10730818169285928868:True:=⟨⟩
theorem tw3601581342026541028:True:=⟨⟩
theorem tw10320207213581509637:True:=⟨⟩
theorem tw156353525151372357:True:=⟨⟩
theorem tw3936414925792220261:True:=⟨⟩
theorem tw11779683662956807301:True:=⟨⟩
theorem tw15693745287305132261:True:=⟨⟩
theorem tw15474777280510875941:True:=⟨⟩
theorem tw14138452317149415749:True:=⟨⟩
theorem tw16805945334876355941:True:=⟨⟩
theorem tw9528236457328739685:True:=⟨⟩
theorem tw2901652793685315045:True:=⟨⟩
theorem tw8945521453576064517:True:=⟨⟩
theorem tw17747656230763130373:True:=⟨⟩
theorem tw1117231158875407941:True:=⟨⟩
theorem tw14687674217114895973:True:=⟨⟩
theorem tw1069530047507531429:True:=⟨⟩
theorem tw5312198015274451621:True:=⟨⟩
theorem tw7923744271946629829:True:=⟨⟩
theorem tw15729887212007519973:True:=⟨⟩
theorem tw5499820012054528773:True:=⟨⟩
theorem tw8702301539816793925:True:=⟨⟩
theorem tw3354210129585463173:True:=⟨⟩
theorem tw13530305648201821061:True:=⟨⟩
theorem tw4213580921357902757:True:=⟨⟩
theorem tw10841577798641085381:True:=⟨⟩
theorem tw5291992220331661350:True:=⟨⟩
theorem tw2984518928917474406:True:=⟨⟩
theorem tw13196296277049084070:True:=⟨⟩
theorem tw18228498376486475942:True:=⟨⟩
theorem tw12253964021186299110:True:=⟨⟩
theorem tw6115948485215975686:True:=⟨⟩
theorem tw2284794533777271174:True:=⟨⟩
theorem tw6086973724561037702:True:=⟨⟩
theorem tw17815567891801290150:True:=⟨⟩
theorem tw3653404282958616006:True:=⟨⟩
theorem tw8539231118521445862:True:=⟨⟩
theorem tw9045408542767647270:True:=⟨⟩
theorem tw10002871892568364614:True:=⟨⟩
theorem tw14229263480103270246:True:=⟨⟩
theorem tw14093405969090154374:True:=⟨⟩
theorem tw3376236126599064518:True:=⟨⟩
theorem tw12620366576835237927:True:=⟨⟩
theorem tw13793880541656949799:True:=⟨⟩
theorem tw11146730162444322855:True:=⟨⟩
theorem tw17814148011190855751:True:=⟨⟩
theorem tw4629820346952431687:True:=⟨⟩
theorem tw87646578295572615:True:=⟨⟩
theorem tw1623415005069842631:True:=⟨⟩
theorem tw8963715585129397479:True:=⟨⟩
theorem tw16486732454107841799:True:=⟨⟩
theorem tw9565771036177147175:True:=⟨⟩
theorem tw17867451733604317511:True:=⟨⟩
theorem tw6484581116833754439:True:=⟨⟩
theorem tw5341898723362059655:True:=⟨⟩
theorem tw2712507684466020807:True:=⟨⟩
theorem tw10375785440114942439:True:=⟨⟩
theorem tw7003555237376684583:True:=⟨⟩
theorem tw9107242548944047687:True:=⟨⟩
theorem tw10787428818263735975:True:=⟨⟩
theorem tw5428692294426395335:True:=⟨⟩
theorem tw6189647496416714471:True:=⟨⟩
theorem tw11198564154461150951:True:=⟨⟩
theorem tw3913690027497374503:True:=⟨⟩
theorem tw7827392900245792583:True:=⟨⟩
theorem tw17686954341763579751:True:=⟨⟩
theorem tw1066153855305256839:True:=⟨⟩
theorem tw17672287111273084936:True:=⟨⟩
theorem tw5581613614883663976:True:=⟨⟩
theorem tw12448102861592778056:True:=⟨⟩
theorem tw2972051218964397384:True:=⟨⟩
theorem tw8528817324578874792:True:=⟨⟩
theorem tw4812715490363408840:True:=⟨⟩
theorem tw2963888477502195144:True:=⟨⟩
theorem tw10425998388743049768:True:=⟨⟩
theorem tw7328344134813241928:True:=⟨⟩
theorem tw17710105070829879976:True:=⟨⟩
theorem tw13398413978661930760:True:=⟨⟩
theorem tw14023816390087322440:True:=⟨⟩
theorem tw13885389936459079496:True:=⟨⟩
theorem tw6254244902419438472:True:=⟨⟩
theorem tw9313164617924371400:True:=⟨⟩
theorem tw8285246262437398537:True:=⟨⟩
theorem tw14659756388831711241:True:=⟨⟩
theorem tw9902573831306819657:True:=⟨⟩
theorem tw17993707329702753353:True:=⟨⟩
theorem tw16753716026869580905:True:=⟨⟩
theorem tw1424449959353247849:True:=⟨⟩
theorem tw322946321828454633:True:=⟨⟩
theorem tw886490805650590985:True:=⟨⟩
theorem tw8195746109288657193:True:=⟨⟩
theorem tw8969287102296421705:True:=⟨⟩
theorem tw9749823502147009993:True:=⟨⟩
theorem tw3368282395515052553:True:=⟨⟩
theorem tw2193474261254571561:True:=⟨⟩
theorem tw6460112479756170825:True:=⟨⟩
theorem tw10833983583568498345:True:=⟨⟩
theorem tw16665582333479144201:True:=⟨⟩
theorem tw11609480640032769833:True:=⟨⟩
theorem tw5196672685289416521:True:=⟨⟩
theorem tw14987578656519659369:True:=⟨⟩
theorem tw6825963507951576937:True:=⟨⟩
theorem tw9445683990663174186:True:=⟨⟩
theorem tw11629974716055117866:True:=⟨⟩
theorem tw7325801936673509450:True:=⟨⟩
theorem tw17715002391055042634:True:=⟨⟩
theorem tw11676569903237583978:True:=⟨⟩
theorem tw12166959614520327306:True:=⟨⟩
theorem tw3807517838601728138:True:=⟨⟩
theorem tw910439825941715178:True:=⟨⟩
theorem tw14022825139031890186:True:=⟨⟩
theorem tw4382731071356335370:True:=⟨⟩
theorem tw17197570279305224618:True:=⟨⟩
theorem tw3597675506053034442:True:=⟨⟩
theorem tw16832696767053021642:True:=⟨⟩
theorem tw1637980103176608330:True:=⟨⟩
theorem tw15168416816017994314:True:=⟨⟩
theorem tw11443925223741046378:True:=⟨⟩
theorem tw8299220741147640490:True:=⟨⟩
theorem tw12136416179471913738:True:=⟨⟩
theorem tw17564513977530052362:True:=⟨⟩
theorem tw15085543022428656554:True:=⟨⟩
theorem tw7498264293705240522:True:=⟨⟩
theorem tw4349833313205738442:True:=⟨⟩
theorem tw12170893812485181547:True:=⟨⟩
theorem tw7287344097154597003:True:=⟨⟩
theorem tw11095398989994577099:True:=⟨⟩
theorem tw1921420553558244555:True:=⟨⟩
theorem tw16212544127461998955:True:=⟨⟩
theorem tw2679498143114636683:True:=⟨⟩
theorem tw2623818489753434507:True:=⟨⟩
theorem tw7293000473320513003:True:=⟨⟩
theorem tw11695936176905577067:True:=⟨⟩
theorem tw3172853925355292395:True:=⟨⟩
theorem tw13258124383479021451:True:=⟨⟩
theorem tw5429516939717600139:True:=⟨⟩
theorem tw10376369478494316459:True:=⟨⟩
theorem tw2794543957960511403:True:=⟨⟩
theorem tw8052430368264194060:True:=⟨⟩
theorem tw8411427144511750252:True:=⟨⟩
theorem tw8840375768685754508:True:=⟨⟩
theorem tw15324891632647098572:True:=⟨⟩
theorem tw11516518065457814732:True:=⟨⟩
theorem tw2859239826038587628:True:=⟨⟩
theorem tw1254138781036752108:True:=⟨⟩
theorem tw7321618072315964652:True:=⟨⟩
theorem tw7367190788760852716:True:=⟨⟩
theorem tw10322884628229813484:True:=⟨⟩
theorem tw3332510686005899628:True:=⟨⟩
theorem tw14154263685473939820:True:=⟨⟩
theorem tw11467695467136271724:True:=⟨⟩
theorem tw6715831078741186956:True:=⟨⟩
theorem tw14073152939641684460:True:=⟨⟩
theorem tw7118818842246741548:True:=⟨⟩
theorem tw16225460206802642508:True:=⟨⟩
theorem tw17207038364662646348:True:=⟨⟩
theorem tw9372754361452099180:True:=⟨⟩
theorem tw4990907388070774412:True:=⟨⟩
theorem tw5590122770350132940:True:=⟨⟩
theorem tw11546539462333268780:True:=⟨⟩
theorem tw1969675282457731916:True:=⟨⟩
theorem tw13920950676660603724:True:=⟨⟩
theorem tw13207080683783469932:True:=⟨⟩
theorem tw17827359679228348300:True:=⟨⟩
theorem tw18239372530207076236:True:=⟨⟩
theorem tw12942865958721859468:True:=⟨⟩
theorem tw17756217387678692236:True:=⟨⟩
theorem tw16116542170062373804:True:=⟨⟩
theorem tw10253208171585197996:True:=⟨⟩
theorem tw3913843173967127468:True:=⟨⟩
theorem tw6759227750255464428:True:=⟨⟩
theorem tw1246865242826840044:True:=⟨⟩
theorem tw8622823615381044237:True:=⟨⟩
theorem tw9759348792216302637:True:=⟨⟩
theorem tw8801517329833744429:True:=⟨⟩
theorem tw12233394787821982797:True:=⟨⟩
theorem tw298454656727630925:True:=⟨⟩
theorem tw13043836544858374285:True:=⟨⟩
theorem tw13907623612015547565:True:=⟨⟩
theorem tw13145447302242115757:True:=⟨⟩
theorem tw3268658025265937677:True:=⟨⟩
theorem tw11908743621396175181:True:=⟨⟩
theorem tw6708760187399598413:True:=⟨⟩
theorem tw11587418937545391501:True:=⟨⟩
theorem tw3039504259718669741:True:=⟨⟩
theorem tw13651878626910745069:True:=⟨⟩
theorem tw6515368557154390541:True:=⟨⟩
theorem tw10395943140938548749:True:=⟨⟩
theorem tw14356705272325928493:True:=⟨⟩
theorem tw5241307416668553805:True:=⟨⟩
theorem tw9789651622784108141:True:=⟨⟩
theorem tw17200289538881844941:True:=⟨⟩
theorem tw17165032317450129229:True:=⟨⟩
theorem tw2575820909040168781:True:=⟨⟩
theorem tw6245985314130030413:True:=⟨⟩
theorem tw502912516253283149:True:=⟨⟩
theorem tw16470016945634346925:True:=⟨⟩
theorem tw11984598508766586829:True:=⟨⟩
theorem tw13367429245218375661:True:=⟨⟩
theorem tw1182812246448036942:True:=⟨⟩
theorem tw3903847548963291278:True:=⟨⟩
theorem tw6831410293001868430:True:=⟨⟩
theorem tw14647722665004428430:True:=⟨⟩
theorem tw18336028783143980206:True:=⟨⟩
theorem tw6010663536139252974:True:=⟨⟩
theorem tw17628979774635266318:True:=⟨⟩
theorem tw17235241162842963214:True:=⟨⟩
theorem tw16886916697625062766:True:=⟨⟩
theorem tw12307648700268195278:True:=⟨⟩
theorem tw7068901667379277294:True:=⟨⟩
theorem tw11299028889247487598:True:=⟨⟩
theorem tw14424599555973686894:True:=⟨⟩
theorem tw16749487362104554094:True:=⟨⟩
theorem tw9789775117570416398:True:=⟨⟩
theorem tw8975023405654799246:True:=⟨⟩
theorem tw4615919590848550830:True:=⟨⟩
theorem tw15078733624187201518:True:=⟨⟩
theorem tw7519272213910875279:True:=⟨⟩
theorem tw2192575238396051599:True:=⟨⟩
theorem tw10912867775028417711:True:=⟨⟩
theorem tw11124245485245311151:True:=⟨⟩
theorem tw5339151825364477199:True:=⟨⟩
theorem tw18045783090167820559:True:=⟨⟩
theorem tw12273315689383848367:True:=⟨⟩
theorem tw2052792211090726479:True:=⟨⟩
theorem tw17427437189501097647:True:=⟨⟩
theorem tw1314994475248628431:True:=⟨⟩
theorem tw3543642547958549231:True:=⟨⟩
theorem tw4440476573350235887:True:=⟨⟩
theorem tw16344093687894039279:True:=⟨⟩
theorem tw10650684275802713903:True:=⟨⟩
theorem tw6549483479363050351:True:=⟨⟩
theorem tw3168256287537161135:True:=⟨⟩
theorem tw2560554034844284911:True:=⟨⟩
theorem tw1386861847528497168:True:=⟨⟩
theorem tw14747878291568828464:True:=⟨⟩
theorem tw16594840915717531888:True:=⟨⟩
theorem tw8571233301160677776:True:=⟨⟩
theorem tw14576902295091982768:True:=⟨⟩
theorem tw8738668200025561552:True:=⟨⟩
theorem tw1621625741266247120:True:=⟨⟩
theorem tw17574417505297702384:True:=⟨⟩
theorem tw3413111945774063088:True:=⟨⟩
theorem tw12999921140464372272:True:=⟨⟩
theorem tw1278932150009912944:True:=⟨⟩
theorem tw4926722498401722992:True:=⟨⟩
theorem tw16255293711166665456:True:=⟨⟩
theorem tw15693529692359595856:True:=⟨⟩
theorem tw16014851214212335472:True:=⟨⟩
theorem tw16619737249955003248:True:=⟨⟩
theorem tw218860233802761168:True:=⟨⟩
theorem tw18004551651698832401:True:=⟨⟩
theorem tw10984937615971229713:True:=⟨⟩
theorem tw10583362086271797297:True:=⟨⟩
theorem tw6287471929731655953:True:=⟨⟩
theorem tw8653027778456503601:True:=⟨⟩
theorem tw12553657294356649297:True:=⟨⟩
theorem tw11532245799085201777:True:=⟨⟩
theorem tw14514937500906336657:True:=⟨⟩
theorem tw3285235841941473681:True:=⟨⟩
theorem tw6349594891958697393:True:=⟨⟩
theorem tw17300722458895067697:True:=⟨⟩
theorem tw10004359391268263473:True:=⟨⟩
theorem tw7915986663621221969:True:=⟨⟩
theorem tw9724656194904746609:True:=⟨⟩
theorem tw14574420740739065457:True:=⟨⟩
theorem tw8134071554454294161:True:=⟨⟩
theorem tw2043455528229798577:True:=⟨⟩
theorem tw580565594449020593:True:=⟨⟩
theorem tw11478132973618482865:True:=⟨⟩
theorem tw10239397445390226097:True:=⟨⟩
theorem tw1102671921532676817:True:=⟨⟩
theorem tw3625063361829490385:True:=⟨⟩
theorem tw3393378907945750225:True:=⟨⟩
theorem tw778507301645129489:True:=⟨⟩
theorem tw4778820421455235857:True:=⟨⟩
theorem tw17297210925690015505:True:=⟨⟩
theorem tw5394876375398251281:True:=⟨⟩
theorem tw15941031609748439921:True:=⟨⟩
theorem tw11848082337285095409:True:=⟨⟩
theorem tw4213671337839718418:True:=⟨⟩
theorem tw16330596902847369266:True:=⟨⟩
theorem tw5702486541104218290:True:=⟨⟩
theorem tw17751635814009196786:True:=⟨⟩
theorem tw15680832292555539762:True:=⟨⟩
theorem tw12377014932051679538:True:=⟨⟩
theorem tw3115236291349938482:True:=⟨⟩
theorem tw7780083962301616498:True:=⟨⟩
theorem tw16870808218669655442:True:=⟨⟩
theorem tw8070240966016592274:True:=⟨⟩
theorem tw3400582044497869234:True:=⟨⟩
theorem tw10417602204021377458:True:=⟨⟩
theorem tw871133875932735026:True:=⟨⟩
theorem tw2880119944579692146:True:=⟨⟩
theorem tw4263222595558109810:True:=⟨⟩
theorem tw3878737552285304466:True:=⟨⟩
theorem tw12919831492732622578:True:=⟨⟩
theorem tw12380144557155421970:True:=⟨⟩
theorem tw6586752406665453362:True:=⟨⟩
theorem tw5139108515905589074:True:=⟨⟩
theorem tw5252032428581254002:True:=⟨⟩
theorem tw7173047519030345586:True:=⟨⟩
theorem tw2176300666242651058:True:=⟨⟩
theorem tw18268352357310527474:True:=⟨⟩
theorem tw9803779589732925459:True:=⟨⟩
theorem tw9714774830471156755:True:=⟨⟩
theorem tw1281894276381124627:True:=⟨⟩
theorem tw10819150873286628499:True:=⟨⟩
theorem tw2458405301673416915:True:=⟨⟩
theorem tw8124275893904585939:True:=⟨⟩
theorem tw530865089767139571:True:=⟨⟩
theorem tw11685373273652631827:True:=⟨⟩
theorem tw2512695127374637331:True:=⟨⟩
theorem tw5987912696206482835:True:=⟨⟩
theorem tw12036069481837353427:True:=⟨⟩
theorem tw13549404133291812371:True:=⟨⟩
theorem tw2203803089826572819:True:=⟨⟩
theorem tw18130817073624882771:True:=⟨⟩
theorem tw13897988314596256371:True:=⟨⟩
theorem tw4105698619059515027:True:=⟨⟩
theorem tw1040133425307720403:True:=⟨⟩
theorem tw15245038071142141651:True:=⟨⟩
theorem tw1567522226482067251:True:=⟨⟩
theorem tw9940232313818023795:True:=⟨⟩
theorem tw12395634353290342355:True:=⟨⟩
theorem tw96366237984470003:True:=⟨⟩
theorem tw13519537090360689651:True:=⟨⟩
theorem tw1592043445102501875:True:=⟨⟩
theorem tw16871417382450532404:True:=⟨⟩
theorem tw4068684404410361908:True:=⟨⟩
theorem tw1916047615384447028:True:=⟨⟩
theorem tw3091403342500873300:True:=⟨⟩
theorem tw15157320234688534676:True:=⟨⟩
theorem tw17008327082293973172:True:=⟨⟩
theorem tw1291398475610076404:True:=⟨⟩
theorem tw5863013055726579988:True:=⟨⟩
theorem tw3997856954232392052:True:=⟨⟩
theorem tw9386811061890078132:True:=⟨⟩
theorem tw16962666963747173844:True:=⟨⟩
theorem tw16127719356597706324:True:=⟨⟩
theorem tw16487908129861397108:True:=⟨⟩
theorem tw1592792821727062644:True:=⟨⟩
theorem tw5254834283657296532:True:=⟨⟩
theorem tw3647867464566647540:True:=⟨⟩
theorem tw3846046932475935476:True:=⟨⟩
theorem tw8770250697574917908:True:=⟨⟩
theorem tw16263428639053702932:True:=⟨⟩
theorem tw7518055784820604692:True:=⟨⟩
theorem tw14229496836979433268:True:=⟨⟩
theorem tw13968318620623052596:True:=⟨⟩
theorem tw10337191926093973332:True:=⟨⟩
theorem tw16547023429484143476:True:=⟨⟩
theorem tw16067689846552568692:True:=⟨⟩
theorem tw14372371708807784404:True:=⟨⟩
theorem tw15900777133060172788:True:=⟨⟩
theorem tw1484317337741849588:True:=⟨⟩
theorem tw9941254278719541269:True:=⟨⟩
theorem tw1332412609784124437:True:=⟨⟩
theorem tw8274517943357369365:True:=⟨⟩
theorem tw6074988949602103317:True:=⟨⟩
theorem tw10157361081896960085:True:=⟨⟩
theorem tw4810101831726699637:True:=⟨⟩
theorem tw13841515444810451061:True:=⟨⟩
theorem tw10715501905559678101:True:=⟨⟩
theorem tw14743015702764696725:True:=⟨⟩
theorem tw2892626780598190261:True:=⟨⟩
theorem tw4218589046161757365:True:=⟨⟩
theorem tw4658213031692097749:True:=⟨⟩
theorem tw3024952310639268085:True:=⟨⟩
theorem tw3688920039425112565:True:=⟨⟩
theorem tw400567902724816405:True:=⟨⟩
theorem tw3639930934097069589:True:=⟨⟩
theorem tw3161663468615964213:True:=⟨⟩
theorem tw17250666991257492117:True:=⟨⟩
theorem tw6356176311568535317:True:=⟨⟩
theorem tw14428075984353725333:True:=⟨⟩
theorem tw13401858745808047029:True:=⟨⟩
theorem tw9514639761277967285:True:=⟨⟩
theorem tw1562840359514260662:True:=⟨⟩
theorem tw17710294528605877494:True:=⟨⟩
theorem tw13879718467205028118:True:=⟨⟩
theorem tw12629942521954111830:True:=⟨⟩
theorem tw306846863618811254:True:=⟨⟩
theorem tw8862528983337201014:True:=⟨⟩
theorem tw2751570498850199958:True:=⟨⟩
theorem tw17393260619764364726:True:=⟨⟩
theorem tw11849171704318388662:True:=⟨⟩
theorem tw3565284851552090646:True:=⟨⟩
theorem tw9236219012349390422:True:=⟨⟩
theorem tw3395645351320689270:True:=⟨⟩
theorem tw17323312099498119958:True:=⟨⟩
theorem tw1890889713188401974:True:=⟨⟩
theorem tw16722214006029542230:True:=⟨⟩
theorem tw396077652210652022:True:=⟨⟩
theorem tw15315767711407018966:True:=⟨⟩
theorem tw8161206887530468342:True:=⟨⟩
theorem tw16627486915293619351:True:=⟨⟩
theorem tw13144260030954216663:True:=⟨⟩
theorem tw14326340148586381527:True:=⟨⟩
theorem tw13557655949942861047:True:=⟨⟩
theorem tw17092087642585255191:True:=⟨⟩
theorem tw931452263981455703:True:=⟨⟩
theorem tw14955938061818192247:True:=⟨⟩
theorem tw2425494499194249655:True:=⟨⟩
theorem tw928741636545466871:True:=⟨⟩
theorem tw9236275352153322039:True:=⟨⟩
theorem tw17702814711865513591:True:=⟨⟩
theorem tw7767610282543406711:True:=⟨⟩
theorem tw5277574025481795223:True:=⟨⟩
theorem tw6555700287552291479:True:=⟨⟩
theorem tw4376491854310136567:True:=⟨⟩
theorem tw274942492813904663:True:=⟨⟩
theorem tw5131332477317710615:True:=⟨⟩
theorem tw3469708457348792119:True:=⟨⟩
theorem tw15846227241489495895:True:=⟨⟩
theorem tw354568350283702135:True:=⟨⟩
theorem tw4858055767790930839:True:=⟨⟩
theorem tw569115516825349079:True:=⟨⟩
theorem tw15714326948510282840:True:=⟨⟩
theorem tw9139794555725990072:True:=⟨⟩
theorem tw17531513087088052440:True:=⟨⟩
theorem tw3278892395989193944:True:=⟨⟩
theorem tw9682529062092855512:True:=⟨⟩
theorem tw5392586544777064664:True:=⟨⟩
theorem tw15971908586369148152:True:=⟨⟩
theorem tw4732628167413170424:True:=⟨⟩
theorem tw344243554256606488:True:=⟨⟩
theorem tw16495506063093881144:True:=⟨⟩
theorem tw12469609961208781208:True:=⟨⟩
theorem tw11398274865789620632:True:=⟨⟩
theorem tw7384271465136000472:True:=⟨⟩
theorem tw12012784472242700888:True:=⟨⟩
theorem tw17226113475729034904:True:=⟨⟩
theorem tw5496539093690691224:True:=⟨⟩
theorem tw3672147052690838200:True:=⟨⟩
theorem tw4575662873910940376:True:=⟨⟩
theorem tw7202607822293709528:True:=⟨⟩
theorem tw556760679063713528:True:=⟨⟩
theorem tw10188044956560824088:True:=⟨⟩
theorem tw15384773479306459928:True:=⟨⟩
theorem tw6034274074793893688:True:=⟨⟩
theorem tw5121221397621049176:True:=⟨⟩
theorem tw12326087811971707736:True:=⟨⟩
theorem tw7705645646633826136:True:=⟨⟩
theorem tw10858069282249885624:True:=⟨⟩
theorem tw5935417955036550072:True:=⟨⟩
theorem tw290761606509215769:True:=⟨⟩
theorem tw3577545948111068217:True:=⟨⟩
theorem tw18377754517643368601:True:=⟨⟩
theorem tw6199731893723579545:True:=⟨⟩
theorem tw12799023380935308473:True:=⟨⟩
theorem tw15090734260426989753:True:=⟨⟩
theorem tw2329591749012469049:True:=⟨⟩
theorem tw18210697641750240569:True:=⟨⟩
theorem tw17252568332982163833:True:=⟨⟩
theorem tw3976350927635416473:True:=⟨⟩
theorem tw6112600540112598425:True:=⟨⟩
theorem tw2056250679147008441:True:=⟨⟩
theorem tw618668595996001785:True:=⟨⟩
theorem tw14942053826603421209:True:=⟨⟩
theorem tw10357260546481749689:True:=⟨⟩
theorem tw11957366894208174809:True:=⟨⟩
theorem tw2350462663881995065:True:=⟨⟩
theorem tw2943525480385303353:True:=⟨⟩
theorem tw2448791863785777017:True:=⟨⟩
theorem tw11178091978089709497:True:=⟨⟩
theorem tw15578230353853236282:True:=⟨⟩
theorem tw11219457844852663386:True:=⟨⟩
theorem tw14823773061485943034:True:=⟨⟩
theorem tw14159154019060953370:True:=⟨⟩
theorem tw4204242318256523674:True:=⟨⟩
theorem tw2313837883836483034:True:=⟨⟩
theorem tw13932213190669940218:True:=⟨⟩
theorem tw11212230313066199610:True:=⟨⟩
theorem tw2753131150212174426:True:=⟨⟩
theorem tw7824559510304652890:True:=⟨⟩
theorem tw9209756507321856698:True:=⟨⟩
theorem tw15070341309947343578:True:=⟨⟩
theorem tw6591320376797818650:True:=⟨⟩
theorem tw6722749575178448666:True:=⟨⟩
theorem tw10180738741998996282:True:=⟨⟩
theorem tw6727756134180467546:True:=⟨⟩
theorem tw15808294012113292282:True:=⟨⟩
theorem tw11845622735551639579:True:=⟨⟩
theorem tw17720707474550221883:True:=⟨⟩
theorem tw15919748118150766683:True:=⟨⟩
theorem tw5884839543255034971:True:=⟨⟩
theorem tw4733521812520564859:True:=⟨⟩
theorem tw8931090202710773051:True:=⟨⟩
theorem tw2909321257485974843:True:=⟨⟩
theorem tw17458611592752361787:True:=⟨⟩
theorem tw4695392574851672411:True:=⟨⟩
theorem tw8139741918648309147:True:=⟨⟩
theorem tw13892708035752809883:True:=⟨⟩
theorem tw15748787920328698267:True:=⟨⟩
theorem tw7048272837079233979:True:=⟨⟩
theorem tw5609977711121153499:True:=⟨⟩
theorem tw12267860195068568027:True:=⟨⟩
theorem tw13516847998034086363:True:=⟨⟩
theorem tw2451204753603706459:True:=⟨⟩
theorem tw9825847565891792539:True:=⟨⟩
theorem tw17917363682946254555:True:=⟨⟩
theorem tw7911917142896115483:True:=⟨⟩
theorem tw5730754848938552123:True:=⟨⟩
theorem tw14478024221949241211:True:=⟨⟩
theorem tw5561210595905798011:True:=⟨⟩
theorem tw16595792657066755995:True:=⟨⟩
theorem tw11192930714875845627:True:=⟨⟩
theorem tw5351845459750109212:True:=⟨⟩
theorem tw8818765736974722140:True:=⟨⟩
theorem tw1515980362431099996:True:=⟨⟩
theorem tw99883715910772860:True:=⟨⟩
theorem tw9323889817957914780:True:=⟨⟩
theorem tw5894000268234508540:True:=⟨⟩
theorem tw12436154960790935804:True:=⟨⟩
theorem tw4668698470129264988:True:=⟨⟩
theorem tw2671199464642156892:True:=⟨⟩
theorem tw11167540082649826716:True:=⟨⟩
theorem tw11105713989308714396:True:=⟨⟩
theorem tw12557140109618648572:True:=⟨⟩
theorem tw13978052472142918140:True:=⟨⟩
theorem tw9385680145540510204:True:=⟨⟩
theorem tw6343381624441586268:True:=⟨⟩
theorem tw9199844616607107772:True:=⟨⟩
theorem tw1862012084309417820:True:=⟨⟩
theorem tw5837743867938845596:True:=⟨⟩
theorem tw8199307881360913340:True:=⟨⟩
theorem tw10806275274406044668:True:=⟨⟩
theorem tw2761878469050301501:True:=⟨⟩
theorem tw5708008503916248157:True:=⟨⟩
theorem tw14050473533524705437:True:=⟨⟩
theorem tw12175147532612233373:True:=⟨⟩
theorem tw10245373884577677501:True:=⟨⟩
theorem tw2147473514597212445:True:=⟨⟩
theorem tw14670580202267950429:True:=⟨⟩
theorem tw11032048176485757277:True:=⟨⟩
theorem tw296416085070302717:True:=⟨⟩
theorem tw6228684564161632797:True:=⟨⟩
theorem tw16238868300064074333:True:=⟨⟩
theorem tw3361669621423961725:True:=⟨⟩
theorem tw748889840185113277:True:=⟨⟩
theorem tw4424589749354064605:True:=⟨⟩
theorem tw7970951453731648221:True:=⟨⟩
theorem tw8477496436305113853:True:=⟨⟩
theorem tw16920256771553885981:True:=⟨⟩
theorem tw15087976699814773629:True:=⟨⟩
theorem tw8989675337170923453:True:=⟨⟩
theorem tw6774723193897491421:True:=⟨⟩
theorem tw7442822660894597117:True:=⟨⟩
theorem tw6719427625642289149:True:=⟨⟩
theorem tw3185667461618207774:True:=⟨⟩
theorem tw1327735929943061566:True:=⟨⟩
theorem tw9867580485119517822:True:=⟨⟩
theorem tw11928237483751758974:True:=⟨⟩
theorem tw3574784760634786974:True:=⟨⟩
theorem tw2978051883116171454:True:=⟨⟩
theorem tw9158229520481971486:True:=⟨⟩
theorem tw7699890782712465726:True:=⟨⟩
theorem tw3843738785273230718:True:=⟨⟩
theorem tw8696072441375930782:True:=⟨⟩
theorem tw13950780968837823934:True:=⟨⟩
theorem tw7803978771107828190:True:=⟨⟩
theorem tw14077334292172112446:True:=⟨⟩
theorem tw355834199797417534:True:=⟨⟩
theorem tw9159810779223075422:True:=⟨⟩
theorem tw8669101179793259102:True:=⟨⟩
theorem tw13183968301836742334:True:=⟨⟩
theorem tw15803704997529294558:True:=⟨⟩
theorem tw11132179376114680574:True:=⟨⟩
theorem tw16867560534008893214:True:=⟨⟩
theorem tw1460797712442930014:True:=⟨⟩
theorem tw9384866248833962878:True:=⟨⟩
theorem tw5963011695207354334:True:=⟨⟩
theorem tw6212294312572006398:True:=⟨⟩
theorem tw16366229388537705470:True:=⟨⟩
theorem tw17547382493765759039:True:=⟨⟩
theorem tw2116704417642488927:True:=⟨⟩
theorem tw2624228007473674431:True:=⟨⟩
theorem tw1978462640890641631:True:=⟨⟩
theorem tw7095970094320680191:True:=⟨⟩
theorem tw4094345178973244703:True:=⟨⟩
theorem tw9526619108758482239:True:=⟨⟩
theorem tw22481483162746271:True:=⟨⟩
theorem tw3468085519175538079:True:=⟨⟩
theorem tw10747203789605670303:True:=⟨⟩
theorem tw8823778441114257855:True:=⟨⟩
theorem tw2338035589870956159:True:=⟨⟩
theorem tw7995184225511724703:True:=⟨⟩
theorem tw16661653527135875775:True:=⟨⟩
theorem tw18233115553844876991:True:=⟨⟩
theorem tw11938663221683652319:True:=⟨⟩
theorem tw1982834979897759583:True:=⟨⟩
theorem tw13486287873317368671:True:=⟨⟩
theorem tw17660160418787143551:True:=⟨⟩
theorem tw8363647481841335167:True:=⟨⟩
theorem tw15211739620772098975:True:=⟨⟩
theorem tw13198149714476619743:True:=⟨⟩
theorem tw11686702384639490777:True:=⟨⟩
end PySem.W.Fast
namespace My
open PySem L2 PyProof.Rows
structure Defs (K:PySem.W.Frag) (mg:Str → Option Value) (CF CR CP CB CE cK cN cF cT cI cX cM cR:Addr):Prop where
  T:Nm mg
  kd:Kd K mg CF CR
  pc:Pc K mg CP
  kc:Kc K mg CF CR CB
  kp:Kp K CP CB
  R:Rf K mg CE cK cN cF cT cI cX cM cR
  Z:Rz K mg "NoNumber" CE cN [cK,cF,cT,cI,cX,cM,cR]
  xn:ExcC K mg "NoNumber" cN
  nmx:mg "max" = none
  nmn:mg "min" = none
  nz:mg "zip" = none
  nsu:mg "sum" = none
  nal:mg "all" = none
  d1:Here K mg "divisor" ZdP
  d2:Here K mg "is_whole" ZbT
  d3:Here K mg "is_prime" Zdh
  d4:Here K mg "shares" ZeR
  d5:Here K mg "less_times" Zcj
  c1:Here K mg "trimmed" ZdQ
  c3:Here K mg "product_number" Zbp
  l1:Here K mg "_law_whole" ZdR
  l2:Here K mg "_law_divisor" ZcK
  l3:Here K mg "_law_is_prime" Zco
  l4:Here K mg "_law_prime" ZdS
  l5:Here K mg "_law_kind" ZeS
  l6:Here K mg "_law_fraction" Zcq
  l7:Here K mg "_law_prime_by" Zcp
  l8:Here K mg "_law_make" ZeT
  l9:Here K mg "_law_is_number" Zb6
  l10:Here K mg "_law_drawn" ZdV
  l13:Here K mg "_law_plus" ZeU
  l16:Here K mg "_law_times" ZdT
  l17:Here K mg "_law_mixed" ZdU
  l18:Here K mg "_law_cut" Zf8
  l19:Here K mg "_law_poly_times" ZbQ
  l20:Here K mg "_law_poly" ZeV
  l21:Here K mg "_law_is_poly" ZcL
  l22:Here K mg "_law_poly_plus" Zb7
  l23:Here K mg "_law_same" ZeW
  l24:Here K mg "_law_right" ZdW
  l25:Here K mg "_law_no_back" ZcM
  l26:Here K mg "_law_not_over" Zcr
  l27:Here K mg "_law_not_made" Zcs
  l28:Here K mg "_law_sums" ZeX
  l29:Here K mg "_law_backs" ZdX
  l30:Here K mg "_law_number" Zdn
  l31:Here K mg "_law_asked" ZdY
  m1:HereM K CF "plus" "Fractions.plus" Zbm
  m2:HereM K CF "minus" "Fractions.minus" Zba
  m3:HereM K CF "back" "Fractions.back" Zbn
  m4:HereM K CF "times" "Fractions.times" Zbb
  m5:HereM K CF "is_nought" "Fractions.is_nought" ZaS
  m6:HereM K CF "common_bottom" "Fractions.common_bottom" ZaI
  m7:HereM K CF "sum_of_products" "Fractions.sum_of_products" ZaF
  m9:HereM K CF "is_number" "Fractions.is_number" ZaT
  r1:HereM K CR "plus" "Rests.plus" Zck
  r2:HereM K CR "minus" "Rests.minus" Zb2
  r3:HereM K CR "back" "Rests.back" Zcl
  r4:HereM K CR "times" "Rests.times" Zb3
  r5:HereM K CR "is_nought" "Rests.is_nought" Zbc
  r7:HereM K CR "sum_of_products" "Rests.sum_of_products" ZaM
  r9:HereM K CR "is_number" "Rests.is_number" Zbd
  p1:HereM K CP "times" "Polys.times" Zb5
  p2:HereM K CP "plus" "Polys.plus" Zcm
  p3:HereM K CP "minus" "Polys.minus" Zb4
  p4:HereM K CP "back" "Polys.back" Zcn
  p5:HereM K CP "over" "Kind.over" ZcJ
  p6:HereM K CP "is_nought" "Polys.is_nought" Zbe
  p7:HereM K CP "is_number" "Polys.is_number" Zbf
  n1:∃ tk,HereD K CF "number" "Fractions.number" ZaB #[.int 1 tk]
  n2:∃ tk,HereD K CR "number" "Rests.number" ZaY #[.int 1 tk]
  n3:∃ tk,HereD K CP "number" "Polys.number" ZaZ #[.int 1 tk]
  i1:HereI K CR "Rests.__init__" Zbo
  i2:HereI K CP "Polys.__init__" Zbq
  lw:Here K mg "law" Zk2
theorem all_mk {l:PySem.W.OpenLaw} {w:World} {K:PySem.W.Frag} {mg:Str → Option Value} {fa CF CR CP CB CE cK cN cF cT cI cX cM cR:Addr} (hfa:mg "law" = some (.ref fa)) (D:Defs K mg CF CR CP CB CE cK cN cF cT cI cX cM cR) :
    ∃ fd:FuncData,(∀ (s:Shared) (v:Value),BindsTo s fd ⟨[v],[]⟩ [("_law_script", v)]) ∧ ∀ base:Heap,K.In base → base.Ns mainGlobals mg → FnOk l.prog w K mg base CX0 9 fa fd ["_law_script"] (sp_law K):=by
  obtain ⟨f,fd,F,m⟩:=D.lw.ex
  have e:=hfa.symm.trans m
  cases e
  refine ⟨fd,?_,fun base _ _ => ?_⟩
  · obtain ⟨oc,od,kV,doc,pm,an,cdv,ct,osl,rfl,lk,hcd⟩:=F.ex
    exact fun s v => .of_eq rfl
  · have T:=D.T
    have kd:=D.kd
    obtain ⟨tk0,n1⟩:=D.n1
    obtain ⟨tk1,n2⟩:=D.n2
    obtain ⟨tk2,n3⟩:=D.n3
    have g1:Has l.prog w K mg base "divisor" 1 _ _:=Zhm D.d1 T
    have g2:Has l.prog w K mg base "is_whole" 1 _ _:=Zga D.d2 T
    have g3:Has l.prog w K mg base "is_prime" 1 _ _:=Zgb D.d3 T
    have g5:Has l.prog w K mg base "less_times" 1 _ _:=Ze0 D.d5
    have g4:=Zin D.d4 g5
    have pc:=D.pc
    have ai:=Zjr D.i1 kd.clR kd.nP g2 g3
    have a1:=Ziu D.m1 g1
    have a2:=Zhs D.m2 kd.clF a1
    have a3:HasMX l.prog w K mg base CF "back" 1 _ _ _:=Zju D.m3 D.xn
    have a4:=Zhp D.m4 g1
    have a5:HasM l.prog w K mg base CF "is_nought" 1 _ _ _:=Zht D.m5
    have a6:=Zgn D.m6 g1
    have a7:=Zgc n1 D.xn g1
    have a8:=Zgo n1 D.xn g1
    have a9:=ZjC D.m7 kd.clF D.nz a6 a8
    have b1:HasM l.prog w K mg base CR "plus" 1 _ _ _:=Zjt D.r1 kd.clR kd.nP
    have b2:HasM l.prog w K mg base CR "minus" 1 _ _ _:=Ziw D.r2 kd.clR kd.nP
    have b8:=Zhr n2 kd.clR kd.nP D.xn g4
    have b7:=Zgd n2 kd.clR kd.nP D.xn g4
    have b3:=Zjv D.r3 kd.clR b8
    have b4:HasM l.prog w K mg base CR "times" 1 _ _ _:=Ziv D.r4 kd.clR kd.nP
    have b5:HasM l.prog w K mg base CR "is_nought" 1 _ _ _:=Zhu D.r5
    have b9:HasM l.prog w K mg base CR "sum_of_products" 3 _ _ _:=ZjD D.r7 kd.clR kd.nP D.nz D.nsu
    have mp:=Zix kd a1 (b1.mono (by decide))
    have mt:=Zhv kd a4 (b4.mono (by decide))
    have mm:=Zhw kd a2 (b2.mono (by decide))
    have mb:=ZiB kd (a3.mono (by decide)) (b3.mono (by decide))
    have mz:=Zgl kd (a5.mono (by decide)) (b5.mono (by decide))
    have mn:=Zgk kd (a7.mono (by decide)) b7
    have md:=ZjE kd a9 b9
    have mn2:=ZiT kd ((Zhq n1 D.xn g1).mono (by decide)) b8
    have g6:Has l.prog w K mg base "is_whole" 1 _ _:=ZfO D.d2 T
    have mi:=Zk0 kd (ZiR D.m9 T g6 g1) (ZiS D.r9 kd.clR kd.nP g6)
    have c1:=Zhy D.c1 T mz
    have c3:=ZlP D.c3 T D.nmx D.nmn md
    have hI:HasI l.prog w K mg base CP 1 _ _:=ZjH D.i2 pc
    have p1:=ZiP D.p1 T pc (c1.mono (by decide)) c3
    have p2:=ZjI D.p2 T D.nz pc mp (c1.mono (by decide))
    have p3:=ZiQ D.p3 T pc mm mn p2
    have p4:=Zhz n3 pc mn2 (c1.mono (by decide))
    have p5:=Zgs n3 pc mn2 (c1.mono (by decide))
    have p6:=ZjK D.p4 T pc D.xn mb
    have p7:=ZjL D.p5 pc p1 p6
    have p8:HasM l.prog w K mg base CP "is_nought" 1 _ _ (Zdm CP CF CR):=ZhA D.p6 T
    have p9:=ZiU D.p7 T D.nal pc mi mz
    have w1:Has l.prog w K mg base "_law_whole" 1 _ _:=Zho D.l1 T
    have w2:Has l.prog w K mg base "_law_divisor" 1 _ _:=ZfG D.l2 T
    have w3:Has l.prog w K mg base "_law_is_prime" 1 _ _:=ZeY D.l3
    have w4:=Zgt D.l4 w3
    have w5:=ZiZ D.l5 kd ai
    have w6:=ZiV D.l6 w2
    have w7:=Zfc D.l7 w4
    have w8:Has l.prog w K mg base "_law_make" 1 _ _:=ZiX D.l8
    have w9:=Zen D.l9 T w1 w2
    have w10:=Zgv D.l10 w6
    have w13:=ZhC D.l13 w6
    have w16:=Zgu D.l16 w6
    have w17:Has l.prog w K mg base "_law_mixed" 1 _ _:=ZhD D.l17
    have w18:=ZjM D.l18 T w8
    have w19:=Zef D.l19 T (w8.mono (by decide)) w13 w16 (w18.mono (by decide))
    have w20:=Zi1 D.l20 T (w17.mono (by decide)) w10 (w18.mono (by decide))
    have w21:=ZfQ D.l21 T w9 (w8.mono (by decide))
    have w22:=Zeo D.l22 T D.nmx w13 (w18.mono (by decide))
    have w23:=Zi3 D.l23 w21
    have w24:Has l.prog w K mg base "_law_right" 1 _ _:=ZfS D.l24 T D.R D.Z
    have w25:=ZfT D.l25 D.R D.Z pc (p6.mono (by decide)) (w24.mono (by decide))
    have w26:=Zfd D.l26 D.R D.Z pc p7 (w24.mono (by decide))
    have w27:=Zfe D.l27 D.R D.Z pc (p4.mono (by decide)) (w24.mono (by decide))
    have w28:=Zi4 D.l28 T pc (p2.mono (by decide)) p3 (p1.mono (by decide)) p7 (w8.mono (by decide)) (w22.mono (by decide)) (w19.mono (by decide)) (w23.mono (by decide))
    have w29:=ZhG D.l29 T pc (p6.mono (by decide)) (p7.mono (by decide)) (w8.mono (by decide)) (w21.mono (by decide)) (w19.mono (by decide)) w25 w26
    have w30:=Zff D.l30 pc (p4.mono (by decide)) (p5.mono (by decide)) (w8.mono (by decide)) (w21.mono (by decide)) (w19.mono (by decide)) (w18.mono (by decide)) (w23.mono (by decide)) w27
    have w31:=ZhH D.l31 T pc (p9.mono (by decide)) (p8.mono (by decide)) (w8.mono (by decide))
    exact ZlU F T kd D.kc D.kp pc hI (p5.mono (by decide)) (w7.mono (by decide)) (w5.mono (by decide)) (w20.mono (by decide)) (w28.mono (by decide)) w29 (w31.mono (by decide)) w30
theorem walk {l:PySem.W.OpenLaw} {q:Program} {loose:List Str} {XP:(Str → Option Value) → Heap → Prop} {YP:World → Heap → Prop} {d:DefRec} {K:Params → PySem.W.Frag} (hn:l.most = some 63) (hdf:d.params.defaults = [])
    (hY:∀ (w:World) (h:Heap),YP w h → (K w.params).In h)
    (F:∀ (w:World) (mg:Str → Option Value) (fa:Addr) (h:Heap),(K w.params).In h → h.Ns mainGlobals mg → mg d.name = some (.ref fa) →
      ∃ fd:FuncData,(∀ (s:Shared) (u:Value),BindsTo s fd ⟨[u],[]⟩ [("_law_script", u)]) ∧ ∀ base:Heap,(K w.params).In base → base.Ns mainGlobals mg → FnOk l.prog w (K w.params) mg base CX0 9 fa fd ["_law_script"] (sp_law (K w.params))) :
    PySem.W.WalkO q loose XP YP l.row.toRowW d [] (fun f vs => PySem.call f vs) :=
  L2.walk_ofB (n:=63) (k:=9) (x := "_law_script") (CX:=fun _ => CX0) (sp:=fun w => sp_law (K w.params)) hn (by decide) hdf ⟨rfl,by decide,by decide⟩ hY F (fun _ _ a ns hl hb _ hS => ⟨a,ns,rfl,hS,hl,hb,fun _ => rfl⟩) fun _ _ _ _ _ z => z
theorem kd_mk {K:PySem.W.Frag} {h:Heap} {mg:Str → Option Value} {CF CR:Addr} (X:K.In h) (G:h.Ns mainGlobals mg) (aF:PySem.W.nsIn K mainGlobals "Fractions" = some (some (.ref CF))) (aR:PySem.W.nsIn K mainGlobals "Rests" = some (some (.ref CR)))
    (p1:PySem.W.plainGet K CF Str.empty = true) (p2:PySem.W.hasDictIn K CF = true) (p3:PySem.W.plainOver K CF = true) (p4:PySem.W.findIn K (.ref CF) "__setattr__" = some (some (.builtin "object.__setattr__")))
    (q1:PySem.W.plainGet K CR Str.empty = true) (q2:PySem.W.hasDictIn K CR = true) (q3:PySem.W.plainOver K CR = true) (q4:PySem.W.findIn K (.ref CR) "__setattr__" = some (some (.builtin "object.__setattr__")))
    (nP:PySem.W.findIn K (.ref CR) "prime" = some none) (mk:PySem.W.makesIn K CF = true) (mi:PySem.W.findIn K (.ref CF) "__init__" = some (some (.builtin "object.__init__"))) (kp:PySem.W.keepIn K (.ref CF) = true):Kd K mg CF CR :=
  ⟨⟨p1,p2,p3,p4⟩,⟨q1,q2,q3,q4⟩,nP,⟨mk,mi,kp⟩,PySem.W.mg_of X G aF,PySem.W.mg_of X G aR⟩
theorem pc_mk {K:PySem.W.Frag} {h:Heap} {mg:Str → Option Value} {CP:Addr} (X:K.In h) (G:h.Ns mainGlobals mg) (a:PySem.W.nsIn K mainGlobals "Polys" = some (some (.ref CP)))
    (q1:PySem.W.plainGet K CP Str.empty = true) (q2:PySem.W.hasDictIn K CP = true) (q3:PySem.W.plainOver K CP = true) (q4:PySem.W.findIn K (.ref CP) "__setattr__" = some (some (.builtin "object.__setattr__")))
    (nU:PySem.W.findIn K (.ref CP) "under" = some none):Pc K mg CP:=⟨⟨q1,q2,q3,q4⟩,nU,PySem.W.mg_of X G a⟩
theorem cn_mk {K:PySem.W.Frag} {h:Heap} {mg:Str → Option Value} {x:Str} {C:Addr} (X:K.In h) (G:h.Ns mainGlobals mg) (a:PySem.W.nsIn K mainGlobals x = some (some (.ref C))) (b:PySem.W.isClsIn K C = true) (c:PySem.W.typeIn K (.ref C) = some (.type "type")):CN K mg x C:=⟨PySem.W.mg_of X G a,b,c⟩
theorem xcls_mk {K:PySem.W.Frag} {C:Addr} (ga:PySem.W.findIn K (.ref C) "__getattribute__" = some (some (.builtin "BaseException.__getattribute__"))) (ha:PySem.W.findIn K (.ref C) "__getattr__" = some none) (cl:PySem.W.findIn K (.ref C) "__class__" = some (some (.builtin "object.__class__")))
    (hn:PySem.W.specialIn K (.builtin "object.__class__") "__get__" = some (some (.builtin "getset_descriptor.__get__"))) (tk:PySem.W.takesIn K (.builtin "object.__class__") = some true) (ob:PySem.W.mroIn K C (.type "object") = some true) (be:PySem.W.mroIn K C (.type "BaseException") = some true) (hd:PySem.W.hasDictIn K C = true):XCls K C:=⟨ga,ha,cl,hn,tk,ob,be,hd⟩
theorem apart_cons {K:PySem.W.Frag} {C D:Addr} {r:List Addr} (a:PySem.W.mroIn K C (.ref D) = some false) (n:C ≠ D) (z:Zjs K C r):Zjs K C (D :: r):=⟨⟨a,n⟩,z⟩
end My
open PySem PySem.W PyProof.Rows
local macro_rules | `(tactic| walk_at "xcls") => `(tactic| exact My.xcls_mk (by k_is) (by k_is) (by k_is) (by k_is) (by k_is) (by k_is) (by k_is) (by k_is))
local macro_rules | `(tactic| walk_at "apart") => `(tactic| repeat (first | exact True.intro | (refine' My.apart_cons (by k_is) (by decide) ?_)))
set_option maxRecDepth 100000 in
set_option maxHeartbeats 0 in
theorem PySem.Challenge.cw_turnframe_k43_polys_as_numbers_holds : PySem.Challenge.rw_turnframe_k43_polys_as_numbers.Holds := by
  w_on; o_law; k_head; (case hw => w_witness2)
  k_fill
  refine My.walk (l:=PySem.Challenge.rw_turnframe_k43_polys_as_numbers) rfl rfl (fun w h Y => PySem.W.kIn_of Y) ?F
  case F =>
    intro w mg fa h KX G hmg
    have kd:=by
      refine' My.kd_mk KX G ?e1 ?e2 ?e3 ?e4 ?e5 ?e6 ?e7 ?e8 ?e9 ?e10 ?e11 ?e12 ?e13 ?e14
      (case e1 => k_is); (case e2 => k_is); (case e3 => k_is); (case e4 => k_is); (case e5 => k_is); (case e6 => k_is); (case e7 => k_is)
      (case e8 => k_is); (case e9 => k_is); (case e10 => k_is); (case e11 => k_is); (case e12 => k_is); (case e13 => k_is); (case e14 => k_is)
    have pc:=by
      refine' My.pc_mk KX G ?e1 ?e2 ?e3 ?e4 ?e5 ?e6
      (case e1 => k_is); (case e2 => k_is); (case e3 => k_is); (case e4 => k_is); (case e5 => k_is); (case e6 => k_is)
    have bK:=by
      refine' My.cn_mk (x := "Kind") KX G ?a ?b ?c
      (case a => k_is); (case b => k_is); (case c => k_is)
    have bF:=by
      refine' My.cn_mk (x := "Fractions") KX G ?a ?b ?c
      (case a => k_is); (case b => k_is); (case c => k_is)
    have bR:=by
      refine' My.cn_mk (x := "Rests") KX G ?a ?b ?c
      (case a => k_is); (case b => k_is); (case c => k_is)
    have nE:=by
      refine' My.cn_mk (x := "FrameError") KX G ?a ?b ?c
      (case a => k_is); (case b => k_is); (case c => k_is)
    have nk:=by
      refine' My.cn_mk (x := "NoKind") KX G ?a ?b ?c
      (case a => k_is); (case b => k_is); (case c => k_is)
    have nn:=by
      refine' My.cn_mk (x := "NoNumber") KX G ?a ?b ?c
      (case a => k_is); (case b => k_is); (case c => k_is)
    have nf:=by
      refine' My.cn_mk (x := "NoFit") KX G ?a ?b ?c
      (case a => k_is); (case b => k_is); (case c => k_is)
    have nt:=by
      refine' My.cn_mk (x := "NoTurn") KX G ?a ?b ?c
      (case a => k_is); (case b => k_is); (case c => k_is)
    have ni:=by
      refine' My.cn_mk (x := "NoInverse") KX G ?a ?b ?c
      (case a => k_is); (case b => k_is); (case c => k_is)
    have nx:=by
      refine' My.cn_mk (x := "NoText") KX G ?a ?b ?c
      (case a => k_is); (case b => k_is); (case c => k_is)
    have nm:=by
      refine' My.cn_mk (x := "NoName") KX G ?a ?b ?c
      (case a => k_is); (case b => k_is); (case c => k_is)
    have nr:=by
      refine' My.cn_mk (x := "NoRow") KX G ?a ?b ?c
      (case a => k_is); (case b => k_is); (case c => k_is)
    have x_xn:=by
      refine' My.cn_mk (x := "NoNumber") KX G ?a ?b ?c
      (case a => k_is); (case b => k_is); (case c => k_is)
    refine My.all_mk hmg ⟨?T,kd,pc,⟨bK,bF,bR,⟨?k1,?k2,?k3,?k4⟩,⟨?k5,?k6,?k7,?k8⟩,⟨?k9,?k10⟩,⟨?k11,?k12⟩,⟨?k13,?k14⟩,⟨?k15,?k16⟩⟩,⟨⟨?q1,?q2,?q3,?q4⟩,⟨?q5,?q6⟩⟩,⟨nE,?eb,nk,nn,nf,nt,ni,nx,nm,nr,PySem.W.mg_none_of KX G ?ve⟩,⟨⟨?Zx,nn.m,?Zi⟩,?Ze,?Zv,?Zo⟩,⟨?xnx,x_xn.m,?xni⟩,PySem.W.mg_none_of KX G ?nmx,PySem.W.mg_none_of KX G ?nmn,PySem.W.mg_none_of KX G ?nz,PySem.W.mg_none_of KX G ?nsu,PySem.W.mg_none_of KX G ?nal,?d1,?d2,?d3,?d4,?d5,?c1,?c3,?l1,?l2,?l3,?l4,?l5,?l6,?l7,?l8,?l9,?l10,?l13,?l16,?l17,?l18,?l19,?l20,?l21,?l22,?l23,?l24,?l25,?l26,?l27,?l28,?l29,?l30,?l31,?m1,?m2,?m3,?m4,?m5,?m6,?m7,?m9,?r1,?r2,?r3,?r4,?r5,?r7,?r9,?p1,?p2,?p3,?p4,?p5,?p6,?p7,?n1,?n2,?n3,?i1,?i2,?lw⟩
    case k1 => k_is
    case k2 => k_is
    case k3 => k_is
    case k4 => k_is
    case k5 => k_is
    case k6 => k_is
    case k7 => k_is
    case k8 => k_is
    case k9 => k_is
    case k11 => k_is
    case k13 => k_is
    case k15 => k_is
    case k10 => decide
    case k12 => decide
    case k14 => decide
    case k16 => decide
    case q1 => k_is
    case q2 => k_is
    case q3 => k_is
    case q4 => k_is
    case q5 => k_is
    case q6 => decide
    case eb => k_is
    case ve => k_is
    case Zx => walk_at "xcls"
    case Zi => k_exc
    case Ze => k_is
    case Zv => k_is
    case Zo => walk_at "apart"
    case xnx => walk_at "xcls"
    case xni => k_exc
    case nmx => k_is
    case nmn => k_is
    case nz => k_is
    case nsu => k_is
    case nal => k_is
    case T =>
      refine' My.nm_mk (PySem.W.mg_of KX G ?e1) ?e2 (PySem.W.mg_none_of KX G ?e3) (PySem.W.mg_none_of KX G ?e4) (PySem.W.mg_none_of KX G ?e5) (PySem.W.mg_none_of KX G ?e6) (PySem.W.mg_none_of KX G ?e7) (PySem.W.mg_none_of KX G ?e8) (PySem.W.mg_none_of KX G ?e9) (PySem.W.mg_none_of KX G ?e10)
      (case e1 => k_is); (case e2 => exact ⟨_,rfl⟩); (case e3 => k_is); (case e4 => k_is); (case e5 => k_is); (case e6 => k_is); (case e7 => k_is); (case e8 => k_is); (case e9 => k_is); (case e10 => k_is)
    case i1 =>
      refine' L2.hereI_mk ?e1 ?e2 ?e3 ?e4 ?e5 ?e6 ?e7
      (case e1 => k_is); (case e2 => k_is); (case e3 => k_is); (case e4 => k_is); (case e5 => k_is); (case e6 => k_is); (case e7 => k_is)
    case i2 =>
      refine' L2.hereI_mk ?e1 ?e2 ?e3 ?e4 ?e5 ?e6 ?e7
      (case e1 => k_is); (case e2 => k_is); (case e3 => k_is); (case e4 => k_is); (case e5 => k_is); (case e6 => k_is); (case e7 => k_is)
    case n1 =>
      refine' ⟨_,L2.hereD_mk ?x0a ?x0i ?x0l ?x0t ?x0c ?x0k⟩
      (case x0a => k_is); (case x0i => k_is); (case x0l => k_is); (case x0t => (apply Eq.trans; k_is; rfl)); (case x0c => k_is); (case x0k => k_is)
    case n2 =>
      refine' ⟨_,L2.hereD_mk ?x1a ?x1i ?x1l ?x1t ?x1c ?x1k⟩
      (case x1a => k_is); (case x1i => k_is); (case x1l => k_is); (case x1t => (apply Eq.trans; k_is; rfl)); (case x1c => k_is); (case x1k => k_is)
    case n3 =>
      refine' ⟨_,L2.hereD_mk ?x2a ?x2i ?x2l ?x2t ?x2c ?x2k⟩
      (case x2a => k_is); (case x2i => k_is); (case x2l => k_is); (case x2t => (apply Eq.trans; k_is; rfl)); (case x2c => k_is); (case x2k => k_is)
    all_goals first
      | (refine' L2.here_mk KX G ?y1 ?y2 ?y3 ?y4
         (case y1 => k_is); (case y2 => k_is); (case y3 => k_is); (case y4 => k_is))
      | (refine' L2.hereM_mk ?z1 ?z2 ?z3 ?z4 ?z5
         (case z1 => k_is); (case z2 => k_is); (case z3 => k_is); (case z4 => k_is); (case z5 => k_is))
