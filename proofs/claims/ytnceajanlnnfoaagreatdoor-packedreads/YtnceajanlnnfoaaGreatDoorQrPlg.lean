/-Packed, plain: what sheet reads, and the file that a grid's cells are. -/
import Derived.Test.YtnceajanlnnfoaaGreatDoorQrPkv
import Derived.Lib.FrozenHead
set_option maxRecDepth 40000
set_option maxHeartbeats 16000000
namespace Go.Proofs.YtnceajanlnnfoaaGreatDoor
section
open Go.RowKit Go.Shelf
structure Upto (K:List Cc) (la:Int×Int):Prop where
 st:D7 (K.map (·.1))
 le:∀x∈K,x.1=la∨ltOf cfA x.1 la=true
theorem Upto.nil (la:Int×Int):Upto [] la:=⟨List.Pairwise.nil,fun x hx=>by simp at hx⟩
theorem j03 {x y z:Int×Int}(h:ltOf cfA x y=true)(k:ltOf cfA y z=true):ltOf cfA x z=true:=by
 rw[j0T] at *;omega
theorem j0S {x:Int×Int}:ltOf cfA x x=false:=by
 rw[j12];omega
theorem Upto.add {K:List Cc}{la at':Int×Int}(h:Upto K la)(hl:ltOf cfA la at'=true)(a:Ct):Upto (K++[(at',a)]) at':=by
 have hlt:∀x∈K,ltOf cfA x.1 at'=true:=fun x hx=>by
  rcases h.le x hx with e|e
  ·rw[e];exact hl
  ·exact j03 e hl
 refine⟨?_,fun x hx=>?_⟩
 ·rw[List.map_append];refine List.pairwise_append.2 ⟨h.st,by simp,fun x hx y hy=>?_⟩;obtain⟨z,hz,rfl⟩:=List.mem_map.1 hx;simp only[List.map_cons,List.map_nil,List.mem_singleton] at hy;subst hy;exact hlt z hz
 ·rcases List.mem_append.1 hx with q|q
  ·exact .inr (hlt x q)
  ·rw[List.mem_singleton] at q;exact .inl (by rw[q])
theorem Upto.not {K:List Cc}{la at':Int×Int}(h:Upto K la)(hl:ltOf cfA la at'=true)(a:Ct):(at',a)∉K:=fun q=>by
 have:=h.le _ q;rcases this with e|e
 ·have e':at'=la:=e;rw[e',j0S] at hl;cases hl
 ·have:=j03 e hl;rw[j0S] at this;cases this
theorem j9a {a:Ct}(h:Rd a)(hv:gv a=true):Gd a:=⟨hv,h.k,h.ok,h.x,by have:=h.size;omega,h.cp⟩
theorem j1u (c r:Nat)(a:Ct):cB (((c:Int),(r:Int)),a)=L2 c r a:=rfl
theorem jC6 {d:List UInt8}{q:Ct×List UInt8}(h:rCt d=some q):d=ctB q.1++q.2/\Rd q.1:=⟨jC7 (a:=q.1) (l':=q.2) h,j5F (a:=q.1) (l':=q.2) h⟩
theorem j5N:∀(n:Nat) (la:Int×Int) (K:List Cc) (l:List UInt8) (K':List Cc) (l':List UInt8),Upto K la->Ok17 K->rSh n la K l=some (K',l')->D7 (K'.map (·.1))/\Ok17 K'/\∃M,K'=K++M/\M.length=n/\l=csB M++l'
 | 0,la,K,l,K',l',hu,ho,h=>by
  rw[rSh] at h;injection h with h;obtain⟨rfl,rfl⟩:=Prod.mk.inj h;exact⟨hu.st,ho,[],by simp,rfl,rfl⟩
 | n+1,la,K,l,K',l',hu,ho,h=>by
  rw[rSh] at h;obtain⟨⟨⟨c,r⟩,d⟩,h1,h2⟩:=Option.bind_eq_some_iff.1 h;simp only at h2;split at h2
  ·rename_i hlt
   obtain⟨⟨a,d2⟩,h3,h4⟩:=Option.bind_eq_some_iff.1 h2;simp only at h4;split at h4
   ·rename_i hr
    obtain⟨h5,h6⟩:=j5L.1 h1;obtain⟨h7,h8⟩:=jC6 h3;simp only at h7 h8;unfold rOk at hr;simp only[Bool.and_eq_true,decide_eq_true_eq] at hr;have ho':Ok17 (K++[(((c:Int),(r:Int)),a)]):=by
     refine⟨fun x hx=>?_,fun x hx=>?_,by rw[List.length_append];simp only[List.length_cons,List.length_nil];omega⟩
     ·rcases List.mem_append.1 hx with q|q
      ·exact ho.gd x q
      ·rw[List.mem_singleton] at q;subst q;exact j9a h8 hr.1.2
     ·rcases List.mem_append.1 hx with q|q
      ·exact ho.at' x q
      ·rw[List.mem_singleton] at q;subst q;exact hr.1.1
    obtain⟨g1,g2,M,g3,g4,g5⟩:=j5N n _ _ _ K' l' (hu.add hlt a) ho' h4;refine⟨g1,g2,(((c:Int),(r:Int)),a)::M,by rw[g3,List.append_assoc];rfl,by rw[List.length_cons,g4],?_⟩;unfold csB;rw[List.flatMap_cons,j1u,h6,h7,g5];unfold L2 csB;simp only[List.append_assoc]
   ·cases h4
  ·cases h2
theorem Ok17.rng {K:List Cc}(h:Ok17 K)(x:Cc)(hx:x∈K):1<=x.1.1/\x.1.1<=256/\1<=x.1.2/\x.1.2<=4096:=(Z3 _ _).1 (h.at' x hx)
theorem j5M:∀(M K:List Cc) (la:Int×Int) (l':List UInt8),Upto K la->D7 ((K++M).map (·.1))->(∀x∈M,ltOf cfA la x.1=true)->Ok17 (K++M)->rSh M.length la K (csB M++l')=some (K++M,l')
 | [],K,la,l',_,_,_,_=>by
  rw[List.length_nil,rSh,List.append_nil]
  rfl
 | x::M,K,la,l',hu,hs,hl,ho=>by
  obtain⟨⟨ci,ri⟩,a⟩:=x;have hx:(((ci,ri),a):Cc)∈K++(((ci,ri),a):Cc)::M:=List.mem_append.2 (.inr List.mem_cons_self);have hb:=ho.rng _ hx;have hg:=ho.gd _ hx;obtain⟨c,rfl⟩:∃c:Nat,ci=(c:Int):=⟨ci.toNat,by have:=hb.1;simp only at this;omega⟩;obtain⟨r,rfl⟩:∃r:Nat,ri=(r:Int):=⟨ri.toNat,by have:=hb.2.2.1;simp only at this;omega⟩;simp only at hb hg;have hlx:=hl _ List.mem_cons_self;simp only at hlx;have e1:csB ((((c:Int),(r:Int)),a)::M)++l'=le 2 c++(le 2 r++(ctB a++(csB M++l'))):=by
   unfold csB;rw[List.flatMap_cons,j1u];unfold L2;simp only[List.append_assoc]
  rw[List.length_cons,rSh,e1,j5L.2 ⟨⟨by omega,by omega⟩,rfl⟩,Option.bind_some];simp only;rw[if_pos hlx,j4S hg,Option.bind_some];simp only;have hlen:K.length<4096:=by
   have:=ho.len;rw[List.length_append,List.length_cons] at this;omega
  have hok:rOk K (c:Int) (r:Int) a=true:=by
   unfold rOk;rw[ho.at' _ hx,hg.val,decide_eq_true hlen]
   rfl
  rw[if_pos hok];have ea:K++(((c:Int),(r:Int)),a)::M=(K++[(((c:Int),(r:Int)),a)])++M:=by rw[List.append_assoc];rfl
  rw[ea] at hs ho ⊢;refine j5M M _ _ l' (hu.add hlx a) hs (fun y hy=>?_) ho;rw[List.map_append] at hs;have:=(List.pairwise_append.1 hs).2.2 ((c:Int),(r:Int)) (by simp) y.1 (List.mem_map_of_mem hy);exact this
theorem j5O {l:List UInt8}{K:List Cc}:L9 l=some K↔D7 (K.map (·.1))/\Ok17 K/\l=le 2 K.length++csB K:=by
 constructor
 ·intro h;obtain⟨⟨n,d⟩,h1,h2⟩:=Option.bind_eq_some_iff.1 h;simp only at h2;obtain⟨⟨K',l'⟩,h3,h4⟩:=Option.bind_eq_some_iff.1 h2;simp only at h4;split at h4
  ·rename_i he
   injection h4 with h4;subst h4;obtain⟨g1,g2,M,g3,g4,g5⟩:=j5N n _ _ _ K' l' (Upto.nil _) Ok17.nil h3;obtain⟨h5,h6⟩:=E4.1 h1;rw[List.nil_append] at g3;subst g3;refine⟨g1,g2,?_⟩;rw[h6,g5,he,g4,List.append_nil]
  ·cases h4
 ·rintro⟨h1,h2,rfl⟩;unfold L9;have hl:=h2.len;rw[E4.2 ⟨by omega,rfl⟩,Option.bind_some];simp only;have h3:=j5M K [] (0,0) [] (Upto.nil _) h1 (fun x hx=>by have:=h2.rng x hx;rw[j0T];omega) h2;rw[List.append_nil,List.nil_append] at h3;rw[h3,Option.bind_some];simp
def ahB (l:List UInt8):List UInt8:=l.take (l.length-4)
def laB (l:List UInt8):List UInt8:=l.drop (l.length-4)
def upE (l:List UInt8):Nat:=if 4194304<l.length then 2 else if l.take 4=D5 then if l.length<10 then 3 else if unle (laB l)=crcS (ahB l) then 0 else 51 else 50
def upO (l:List UInt8):Option (List Cc):=if upE l=0 then L9 ((ahB l).drop 4) else none
def upR (l:List UInt8):Nat:=if upE l=0 then (if (upO l).isSome=true then 0 else 3) else upE l
theorem j74 (l:List UInt8):ahB l++laB l=l:=List.take_append_drop _ _
theorem j2L {l:List UInt8}(h:4<=l.length):(laB l).length=4:=by
 unfold laB;rw[List.length_drop];omega
theorem j75 (m n:List UInt8)(h:n.length=4):ahB (m++n)=m/\laB (m++n)=n:=by
 unfold ahB laB;have e:(m++n).length-4=m.length:=by rw[List.length_append];omega
 rw[e];exact⟨List.take_left,List.drop_left⟩
theorem j8S (K:List Cc):6<=(D6 K).length:=by
 unfold D6;rw[List.length_append,List.length_append,D8];have:D5.length=4:=rfl;omega
theorem j2D (K:List Cc):ahB (D2 K)=D6 K/\laB (D2 K)=le 4 (crcS (D6 K)):=by
 unfold D2;exact j75 _ _ (D8 _ _)
theorem j9K (K:List Cc):(D2 K).take 4=D5:=by
 unfold D2 D6;rw[List.append_assoc,List.append_assoc];exact List.take_left (l₁:=D5)
theorem jEW (l:List UInt8):unle (le 4 (crcS l))=crcS l:=by
 rw[j37];exact Nat.mod_eq_of_lt (U4 l)
theorem j3X (K:List Cc):(D6 K).drop 4=le 2 K.length++csB K:=by
 unfold D6;rw[List.append_assoc];exact List.drop_left (l₁:=D5)
theorem jEY {K:List Cc}(hl:(D2 K).length<=4194304):upE (D2 K)=0:=by
 have h1:=j8S K;have h2:=X7 K;obtain⟨e1,e2⟩:=j2D K;unfold upE;rw[if_neg (by omega),if_pos (j9K K),if_neg (by omega),e1,e2,jEW,if_pos rfl]
theorem j6V {K:List Cc}(hs:D7 (K.map (·.1)))(ho:Ok17 K)(hl:(D2 K).length<=4194304):upO (D2 K)=some K/\upR (D2 K)=0:=by
 have e0:=jEY hl;obtain⟨e1,_⟩:=j2D K;have e3:upO (D2 K)=some K:=by
  unfold upO;rw[if_pos e0,e1,j3X];exact j5O.2 ⟨hs,ho,rfl⟩
 refine⟨e3,?_⟩;unfold upR;rw[if_pos e0,e3]
 rfl
theorem j38 {l:List UInt8}{K:List Cc}(h:upO l=some K):l=D2 K/\D7 (K.map (·.1))/\Ok17 K/\l.length<=4194304:=by
 unfold upO at h;by_cases he:upE l=0
 ·rw[if_pos he] at h;obtain⟨h1,h2,h3⟩:=j5O.1 h;unfold upE at he;by_cases q1:4194304<l.length
  ·rw[if_pos q1] at he;cases he
  rw[if_neg q1] at he;by_cases q2:l.take 4=D5
  ·rw[if_pos q2] at he;by_cases q3:l.length<10
   ·rw[if_pos q3] at he;cases he
   rw[if_neg q3] at he;by_cases q4:unle (laB l)=crcS (ahB l)
   ·have hb:ahB l=D6 K:=by
     have e1:(ahB l).take 4=D5:=by
      rw[<- q2];unfold ahB;rw[List.take_take]
      congr 1
      omega
     rw[<- List.take_append_drop 4 (ahB l),e1,h3];unfold D6;rw[List.append_assoc]
    refine⟨?_,h1,h2,by omega⟩;have e2:laB l=le 4 (crcS (D6 K)):=by
     rw[<- hb,<- q4];have:=j2N (laB l);rw[j2L (by omega)] at this;exact this.symm
    have e3:=j74 l;rw[hb,e2] at e3;exact e3.symm
   ·rw[if_neg q4] at he;cases he
  ·rw[if_neg q2] at he;cases he
 ·rw[if_neg he] at h;cases h
end
section
open Go.RowKit Go.Maps Go.Sort Go.Lib Go.Shelf
structure F6 (K:List Cc) (k:Int×Int) (lo:Nat):Prop where
 le:lo<=K.length
 lt:∀j x,K[j]? = some x->j<lo->ltOf cfA x.1 k=true
 ge:∀j x,K[j]? = some x->lo<=j->ltOf cfA x.1 k=false
def isK (K:List Cc) (lo:Nat) (k:Int×Int):Bool:=match K[lo]? with|none=>false|some x=>decide (x.1=k)
def insK (K:List Cc) (k:Int×Int) (lo:Nat) (mid:List Cc):List Cc:=K.take lo++(mid++K.drop (lo+(isK K lo k).toNat))
theorem j0q {K:List Cc}(h:D7 (K.map (·.1))){i j:Nat}{x y:Cc}(hx:K[i]? = some x)(hy:K[j]? = some y)(hij:i<j):ltOf cfA x.1 y.1=true:=by
 unfold D7 at h;rw[List.pairwise_map,List.pairwise_iff_getElem] at h;obtain⟨hi,rfl⟩:=List.getElem?_eq_some_iff.1 hx;obtain⟨hj,rfl⟩:=List.getElem?_eq_some_iff.1 hy;exact h i j hi hj hij
theorem F6.at_is {K:List Cc}{k:Int×Int}{lo:Nat}(p:F6 K k lo){j:Nat}{x:Cc}(hs:D7 (K.map (·.1)))(hx:K[j]? = some x)(e:x.1=k):j=lo:=by
 rcases Nat.lt_trichotomy j lo with h|h|h
 ·have:=p.lt j x hx h;rw[e,j0S] at this;cases this
 ·exact h
 ·have hl:lo<K.length:=Nat.lt_trans h (List.getElem?_eq_some_iff.1 hx).1;have hy:K[lo]? = some K[lo]:=List.getElem?_eq_getElem hl;have h1:=p.ge lo _ hy (Nat.le_refl _);have h2:=j0q hs hy hx h;rw[e,h1] at h2;cases h2
theorem j9u {K:List Cc}{k:Int×Int}{lo:Nat}(p:F6 K k lo)(hs:D7 (K.map (·.1))):isK K lo k=true↔∃a,(k,a)∈K:=by
 constructor
 ·intro h;unfold isK at h;split at h
  ·cases h
  ·rename_i x hx
   exact⟨x.2,by have:=List.mem_of_getElem? hx;rw[<- of_decide_eq_true h];exact this⟩
 ·rintro⟨a,ha⟩;obtain⟨j,hj⟩:=List.mem_iff_getElem?.1 ha;have e:=p.at_is hs hj rfl;subst e;unfold isK;rw[hj];exact decide_eq_true rfl
theorem F6.drop_lt {K:List Cc}{k:Int×Int}{lo:Nat}(p:F6 K k lo)(hs:D7 (K.map (·.1))){x:Cc}(hx:x∈K.drop (lo+(isK K lo k).toNat)):ltOf cfA k x.1=true:=by
 obtain⟨j,hj⟩:=List.mem_iff_getElem?.1 hx;rw[List.getElem?_drop] at hj;have h1:=p.ge _ x hj (by omega);cases hq:ltOf cfA k x.1 with
 | true=>rfl
 | false=>
  have e:=j1x x.1 k h1 hq;have e2:=p.at_is hs hj e;have hi:isK K lo k=true:=(j9u p hs).2 ⟨x.2,by have:=List.mem_of_getElem? hj;rw[<- e];exact this⟩;rw[hi] at e2;have e3:lo+1+j=lo:=e2;omega
theorem F6.take_lt {K:List Cc}{k:Int×Int}{lo:Nat}(p:F6 K k lo){x:Cc}(hx:x∈K.take lo):ltOf cfA x.1 k=true:=by
 obtain⟨j,hj⟩:=List.mem_iff_getElem?.1 hx;rw[List.getElem?_take] at hj;split at hj
 ·exact p.lt j x hj ‹_›
 ·cases hj
theorem j4e {K:List Cc}{k:Int×Int}{lo:Nat}(p:F6 K k lo)(hs:D7 (K.map (·.1)))(mid:List Cc)(x:Cc):x∈insK K k lo mid↔(x∈K/\x.1≠k)∨x∈mid:=by
 unfold insK;rw[List.mem_append,List.mem_append];constructor
 ·rintro(h|h|h)
  ·exact .inl ⟨List.mem_of_mem_take h,fun e=>by have:=p.take_lt h;rw[e,j0S] at this;cases this⟩
  ·exact .inr h
  ·exact .inl ⟨List.mem_of_mem_drop h,fun e=>by have:=p.drop_lt hs h;rw[e,j0S] at this;cases this⟩
 ·rintro(⟨h,hn⟩|h)
  ·obtain⟨j,hj⟩:=List.mem_iff_getElem?.1 h;by_cases q:j<lo
   ·exact .inl (List.mem_iff_getElem?.2 ⟨j,by rw[List.getElem?_take,if_pos q];exact hj⟩)
   ·refine .inr (.inr ?_);have hne:isK K lo k=true->j≠lo:=fun hi e=>by
     subst e;unfold isK at hi;rw[hj] at hi;exact hn (of_decide_eq_true hi)
    have hle:lo+(isK K lo k).toNat<=j:=by
     cases hi:isK K lo k with
     | false=>simp;omega
     | true=>have:=hne hi;simp;omega
    exact List.mem_iff_getElem?.2 ⟨j-(lo+(isK K lo k).toNat),by rw[List.getElem?_drop,Nat.add_sub_cancel' hle];exact hj⟩
  ·exact .inr (.inl h)
theorem j9s {K:List Cc}{k:Int×Int}{lo:Nat}(p:F6 K k lo)(hs:D7 (K.map (·.1)))(mid:List Cc)(hm:mid=[]∨∃a,mid=[(k,a)]):D7 ((insK K k lo mid).map (·.1)):=by
 have hs':=hs;unfold D7 at hs ⊢;unfold insK;rw[List.map_append,List.map_append,List.pairwise_append,List.pairwise_append];have hk:∀y∈mid.map (·.1),y=k:=fun y hy=>by
  rcases hm with rfl|⟨a,rfl⟩
  ·simp at hy
  ·simpa using hy
 refine⟨?_,⟨?_,?_,?_⟩,?_⟩
 ·rw[List.map_take];exact hs.take
 ·rcases hm with rfl|⟨a,rfl⟩ <;> simp
 ·rw[List.map_drop];exact hs.drop
 ·intro x hx y hy;rw[hk x hx];obtain⟨z,hz,rfl⟩:=List.mem_map.1 hy;exact p.drop_lt hs' hz
 ·intro x hx y hy;obtain⟨z,hz,rfl⟩:=List.mem_map.1 hx;have h1:=p.take_lt hz;rcases List.mem_append.1 hy with hy|hy
  ·rw[hk y hy];exact h1
  ·obtain⟨u,hu,rfl⟩:=List.mem_map.1 hy;exact j03 h1 (p.drop_lt hs' hu)
theorem j9r {K:List Cc}{k:Int×Int}{lo:Nat}(p:F6 K k lo)(mid:List Cc):(insK K k lo mid).length=K.length+mid.length-(isK K lo k).toNat:=by
 have h1:=p.le;have h2:(isK K lo k).toNat<=K.length-lo:=by
  unfold isK;cases h:K[lo]? with
  | none=>simp
  | some x=>
   have:=(List.getElem?_eq_some_iff.1 h).1;simp only;cases decide (x.1=k) <;> simp <;> omega
 unfold insK;rw[List.length_append,List.length_append,List.length_take,List.length_drop];omega
theorem j8U {K:List Cc}(hs:D7 (K.map (·.1))){q:Int×Int}{k:Nat}{x:Cc}(hx:K[k]? = some x)(h:ltOf cfA x.1 q=true):∀j y,K[j]? = some y->j<k+1->ltOf cfA y.1 q=true:=fun j y hy hj=>by
 rcases Nat.lt_or_ge j k with h1|h1
 ·exact j03 (j0q hs hy hx h1) h
 ·have e:j=k:=by omega
  subst e;rw[hx] at hy;injection hy with hy;rw[<- hy];exact h
theorem j8T {K:List Cc}(hs:D7 (K.map (·.1))){q:Int×Int}{k:Nat}{x:Cc}(hx:K[k]? = some x)(h:ltOf cfA x.1 q=false):∀j y,K[j]? = some y->k<=j->ltOf cfA y.1 q=false:=fun j y hy hj=>by
 rcases Nat.lt_or_ge k j with h1|h1
 ·cases hc:ltOf cfA y.1 q with
  | false=>rfl
  | true=>rw[j03 (j0q hs hx hy h1) hc] at h;cases h
 ·have e:j=k:=by omega
  subst e;rw[hx] at hy;injection hy with hy;rw[<- hy];exact h
theorem jAo {lo hi n:Nat}(h:lo<hi/\hi<=n/\n<=4096):wrap64 ((wrap64 ((lo:Int)+(hi:Int))).tdiv 2)=(((lo+hi)/2:Nat):Int):=by
 have e:wrap64 ((lo:Int)+(hi:Int))=((lo+hi:Nat):Int):=by unfold wrap64;omega
 rw[e,Int.tdiv_eq_ediv_of_nonneg (by omega)];unfold wrap64;omega
theorem j56 {k h n:Nat}(h1:k<h)(h2:h<=n):(k:Int)<(n:Int):=by omega
theorem jBj {k n:Nat}(h:k<n/\n<=4096):wrap64 ((k:Int)+1)=((k+1:Nat):Int):=by unfold wrap64;omega
theorem jBh {k lo hi:Nat}(h:lo<=k/\k<hi):((hi:Int)-((k+1:Nat):Int)).toNat<((hi:Int)-(lo:Int)).toNat:=by omega
theorem jBi {k lo hi:Nat}(h:lo<=k/\k<hi):((k:Int)-(lo:Int)).toNat<((hi:Int)-(lo:Int)).toNat:=by omega
theorem j9F (a b c d:Int)(w:World):(binOp .eql 57 (.agg #[.int .i64 a,.int .i64 b]) (.agg #[.int .i64 c,.int .i64 d])).run Tryz.prog w=.ok (.bool (decide ((a,b)=(c,d)))) w:=by
 by_cases h1:a=c
 ·by_cases h2:b=d
  ·subst h1 h2;simp[go_sem]
  ·subst h1;simp[go_sem,h2]
 ·simp[go_sem,h1]
theorem jBk (r n cp:Nat)(p:Option Addr)(K:List Cc)(c s:Int)(w:World)(hn:K.length=n)(hn4:n<=4096)(hs:D7 (K.map (·.1)))
 (hA:∀wq,Kp w wq Nul->wq.cell? ⟨r,0,none⟩=some (.slice p n cp))
 (hR:∀i x,K[i]? = some x->∃b,p=some ⟨b,0,none⟩/\∀wq,Kp w wq Nul->wq.rangeAt b (i*23) [.int .i64 x.1.1,.int .i64 x.1.2]) :
 Calls Tryz.prog 64 #[.pointer (some ⟨r,0,none⟩),.agg #[.int .i64 c,.int .i64 s]] w fun e w'=>(∃lo,e=.returned (.tuple #[.int .i64 (lo:Nat),.bool (isK K lo (c,s))])/\F6 K (c,s) lo)/\Kp w w' Nul:=by
 obtain⟨W,hW⟩:∃W,w.alloc (.cells #[.int .i64 c,.int .i64 s] 57)=W:=⟨_,rfl⟩;have kW:Kp w W Nul:=by rw[<- hW];exact(Kp.refl _ _).alloc _
 have HW:Hid (w.alloc (.cells #[.int .i64 c,.int .i64 s] 57)=W):=hW;have HK0:Hid (Kp w W Nul):=kW;have HC:Hid (∀wq,Kp W wq Nul->Blk wq w.heap.size [.int .i64 c,.int .i64 s] 57):=fun wq k=>by
  have:Blk W w.heap.size [.int .i64 c,.int .i64 s] 57:=by rw[<- hW];exact Blk.new w _ _
  exact this.kp k (fun x=>x)
 have HA:Hid (∀wq,Kp W wq Nul->wq.cell? ⟨r,0,none⟩=some (.slice p n cp)):=fun wq k=>hA wq (kW.trans k)
 have HR:Hid (∀i x,K[i]? = some x->∃b,p=some ⟨b,0,none⟩/\∀wq,Kp W wq Nul->wq.rangeAt b (i*23) [.int .i64 x.1.1,.int .i64 x.1.2]):=fun i x hx=>by
  obtain⟨b,e1,e2⟩:=hR i x hx;exact⟨b,e1,fun wq k=>e2 wq (kW.trans k)⟩
 have HOr:Hid (∀a b c d w,Calls Tryz.prog 88 #[.agg #[.int .i64 a,.int .i64 b],.agg #[.int .i64 c,.int .i64 d]] w fun e w'=>e=.returned (.int .i64 (ordC a b c d))/\Kp w w' Nul):=fun a b c d w=>(j5K a b c d w).mono fun e w' h=>⟨h.1,Kp.of_gr h.2⟩
 have HS:Hid (D7 (K.map (·.1))):=hs;have HN:Hid (K.length=n/\n<=4096):=⟨hn,hn4⟩;have a0:W.cell? ⟨r,0,none⟩=some (.slice p n cp):=HA.out W (Kp.refl _ _);clear hA hR hs hn hn4 hW kW;go_enter Tryz.func64,Tryz.ntmps64;go_wp2_with (first|(rw[HW.out])|fail);clear a0;go_loopw[6,7] (fun sl sh wr=>∃lo hi:Nat,sl=.int .i64 lo/\sh=.int .i64 hi/\lo<=hi/\hi<=n/\(∀j y,K[j]? = some y->j<lo->ltOf cfA y.1 (c,s)=true)/\(∀j y,K[j]? = some y->hi<=j->ltOf cfA y.1 (c,s)=false)/\Kp W wr Nul) (fun sl sh _=>((RowKit.intOf sh)-(RowKit.intOf sl)).toNat)
 case atStart=>exact⟨0,n,by simp,rfl,Nat.zero_le _,Nat.le_refl _,fun j y _ h=>absurd h (Nat.not_lt_zero _),fun j y hy h=>by have:=(List.getElem?_eq_some_iff.1 hy).1;have:=HN.out.1;omega,Kp.refl _ _⟩
 case round=>
  obtain⟨lo,hi,rfl,rfl,hle,hhi,hlo,hge,hkr⟩:=hrel;have HKr:Hid (Kp W wr Nul):=hkr;have HLO:Hid (∀j y,K[j]? = some y->j<lo->ltOf cfA y.1 (c,s)=true):=hlo;have HGE:Hid (∀j y,K[j]? = some y->hi<=j->ltOf cfA y.1 (c,s)=false):=hge;clear hlo hge hkr;by_cases hlt:lo<hi
  ·have hlt':(lo:Int)<(hi:Int):=(by omega);have HB:Hid (lo<hi/\hi<=n/\n<=4096):=⟨hlt,hhi,HN.out.2⟩;obtain⟨k,hk⟩:∃k,(lo+hi)/2=k:=⟨_,rfl⟩;have HKB:Hid (lo<=k/\k<hi):=(by show _/\_;omega);obtain⟨x,hx⟩:∃x,K[k]? = some x:=⟨_,List.getElem?_eq_getElem (by have:=HN.out.1;omega)⟩;obtain⟨b,rfl,hrx⟩:=HR.out k x hx;have HRx:Hid (∀wq,Kp W wq Nul->wq.rangeAt b (k*23) [.int .i64 x.1.1,.int .i64 x.1.2]):=hrx;have HX:Hid (K[k]? = some x):=hx;clear hrx hx hle hhi hlt;go_wp2_with fail;rw[jAo HB.out,hk];have hkn:(k:Int)<(n:Int):=j56 HKB.out.2 HB.out.2.1;have hk0:(0:Int)<=(k:Int):=Int.natCast_nonneg k;obtain⟨od,hod⟩:∃od,ordC x.1.1 x.1.2 c s=od:=⟨_,rfl⟩;have HOD:Hid (ltOf cfA x.1 (c,s)=decide (od<0)):=(by show _=_;rw[<- hod];rfl);have HOx:Hid (∀w,Calls Tryz.prog 88 #[.agg #[.int .i64 x.1.1,.int .i64 x.1.2],.agg #[.int .i64 c,.int .i64 s]] w fun e w'=>e=.returned (.int .i64 od)/\Kp w w' Nul):=fun w=>by have h:=HOr.out x.1.1 x.1.2 c s w;rw[hod] at h;exact h
   clear hk hod;refine wp_region_noPanic ?_;refine F5 (fun w':World=>Kp W w' Nul) (by kernel_rfl) (HKr.out.drew) (fun hHeld=>?_);refine j3 (i:=0) (v:=.pointer (some ⟨r,0,none⟩)) (some 21) rfl rfl (by kernel_rfl) (fun _ _ _ h=>h) (Or.inl ⟨by rfl,?_⟩) hHeld ?_
   ·intro w' hSw;clear hSw;go_simp
   simp only[Act.put,Sz0,Sz1,Sz2];refine j3 (i:=1) (v:=.pointer (some ⟨r,0,none⟩)) (some 22) rfl rfl (by kernel_rfl) (fun _ _ _ h=>h) (Or.inl ⟨by rfl,?_⟩) hHeld ?_
   ·intro w' hSw;clear hSw;go_simp
   simp only[Act.put,Sz0,Sz1,Sz2];refine j3 (i:=2) (v:=.pointer (some ⟨r,0,none⟩)) (some 23) rfl rfl (by kernel_rfl) (fun _ _ _ h=>h) (Or.inl ⟨by rfl,?_⟩) hHeld ?_
   ·intro w' hSw;clear hSw;go_simp
   simp only[Act.put,Sz0,Sz1,Sz2];refine j3 (i:=3) (v:=.slice (some ⟨b,0,none⟩) n cp) (some 24) rfl rfl (by kernel_rfl) (fun _ _ _ h=>h) (Or.inl ⟨by rfl,?_⟩) hHeld ?_
   ·intro w' hSw;have s0:=HA.out w' hSw;clear hSw;go_simp
   simp only[Act.put,Sz0,Sz1,Sz2];refine j3 (i:=4) (v:=.int .i64 (k:Nat)) (some 25) rfl rfl (by kernel_rfl) (fun _ _ _ h=>h) (Or.inl ⟨by rfl,?_⟩) hHeld ?_
   ·intro w' hSw;clear hSw;go_simp
   simp only[Act.put,Sz0,Sz1,Sz2];refine j3 (i:=5) (v:=.pointer (some ⟨b,k*23,none⟩)) (some 26) rfl rfl (by kernel_rfl) (fun _ _ _ h=>h) (Or.inl ⟨by rfl,?_⟩) hHeld ?_
   ·intro w' hSw;clear hSw;go_simp
   simp only[Act.put,Sz0,Sz1,Sz2];refine j3 (i:=6) (v:=.pointer (some ⟨b,k*23,none⟩)) (some 27) rfl rfl (by kernel_rfl) (fun _ _ _ h=>h) (Or.inl ⟨by rfl,?_⟩) hHeld ?_
   ·intro w' hSw;clear hSw;go_simp
   simp only[Act.put,Sz0,Sz1,Sz2];refine j3 (i:=7) (v:=.agg #[.int .i64 x.1.1,.int .i64 x.1.2]) (some 28) rfl rfl (by kernel_rfl) (fun _ _ _ h=>h) (Or.inl ⟨by rfl,fun w' hSw=>L3 57 (.tmp 27) rfl b (k*23) rfl [.int .i64 x.1.1,.int .i64 x.1.2] _ (HRx.out w' hSw) Tryz.underlying57 rfl F4⟩) hHeld ?_;simp only[Act.put,Sz0,Sz1,Sz2];refine j3 (i:=8) (v:=.agg #[.int .i64 c,.int .i64 s]) (some 29) rfl rfl (by kernel_rfl) (fun _ _ _ h=>h) (Or.inl ⟨by rfl,fun w' hSw=>L3 57 (.tmp 3) rfl w.heap.size 0 rfl [.int .i64 c,.int .i64 s] _ (j0R (HC.out w' hSw)) Tryz.underlying57 rfl F4⟩) hHeld ?_;simp only[Act.put,Sz0,Sz1,Sz2];refine D9 (i:=9) (by kernel_rfl) rfl rfl (fun K hK=>?_);go_simp;refine(HOx.out _).mono ?_;rintro e s1 ⟨rfl,hk2⟩;have S1:Hid (Kp W s1 Nul):=(HKr.out.drew).trans hk2;refine hK.out _ _ S1.out (fun hHeld=>?_)
   clear hK K hk2
   (try simp only[Act.put,Sz0,Sz1,Sz2])
   refine j3 (i:=10) (v:=.bool (decide (od<0))) (some 31) rfl rfl (by kernel_rfl) (fun _ _ _ h=>h) (Or.inl ⟨by rfl,?_⟩) hHeld ?_
   ·intro w' hSw;clear hSw;go_simp
   simp only[Act.put,Sz0,Sz1,Sz2];refine wpAnyH_done (by kernel_rfl) ?_ _;refine NoPanic.normal ?_;clear hHeld;cases hB:decide (od<0) with
   | true=>
    have HN1:Hid (∀j y,K[j]? = some y->j<k+1->ltOf cfA y.1 (c,s)=true):=j8U HS.out HX.out (by rw[HOD.out,hB]);clear hB;go_wp2_with fail;rw[jBj ⟨Nat.lt_of_lt_of_le HKB.out.2 HB.out.2.1,HB.out.2.2⟩];go_roundw
    case rel=>exact⟨k+1,hi,rfl,rfl,HKB.out.2,HB.out.2.1,HN1.out,HGE.out,S1.out⟩
    case measure=>exact jBh HKB.out
   | false=>
    have HN1:Hid (∀j y,K[j]? = some y->k<=j->ltOf cfA y.1 (c,s)=false):=j8T HS.out HX.out (by rw[HOD.out,hB]);clear hB;go_wp2_with fail;go_roundw
    case rel=>exact⟨lo,k,rfl,rfl,HKB.out.1,Nat.le_of_lt (Nat.lt_of_lt_of_le HKB.out.2 HB.out.2.1),HLO.out,HN1.out,S1.out⟩
    case measure=>exact jBi HKB.out
  ·have hee:lo=hi:=(by omega);subst hee;have HPl:Hid (F6 K (c,s) lo):=⟨by have:=HN.out.1;omega,HLO.out,HGE.out⟩;have hqn:¬((lo:Int)<(lo:Int)):=Int.lt_irrefl _;have HHI:Hid (lo<=n):=hhi;clear hle hlt HLO HGE hhi;by_cases hl:lo<n
   ·have hl':(lo:Int)<(n:Int):=j56 hl (Nat.le_refl _);have hl0:(0:Int)<=(lo:Int):=Int.natCast_nonneg lo;obtain⟨x,hx⟩:∃x,K[lo]? = some x:=⟨_,List.getElem?_eq_getElem (by have:=HN.out.1;omega)⟩;obtain⟨b,rfl,hrx⟩:=HR.out lo x hx;have HRx:Hid (∀wq,Kp W wq Nul->wq.rangeAt b (lo*23) [.int .i64 x.1.1,.int .i64 x.1.2]):=hrx;obtain⟨E,hE⟩:∃E,decide ((x.1.1,x.1.2)=(c,s))=E:=⟨_,rfl⟩;have HEq:Hid (∀w,(binOp .eql 57 (.agg #[.int .i64 x.1.1,.int .i64 x.1.2]) (.agg #[.int .i64 c,.int .i64 s])).run Tryz.prog w=.ok (.bool E) w):=(fun w=>by rw[j9F,hE]);have HIs:Hid (isK K lo (c,s)=E):=(by show _=_;unfold isK;rw[hx,<- hE]);clear hrx hx hE hl;go_wp2_with fail;refine wp_region_noPanic ?_;refine F5 (fun w':World=>Kp W w' Nul) (by kernel_rfl) (HKr.out.drew) (fun hHeld=>?_);refine j3 (i:=0) (v:=.int .i64 (lo:Nat)) (some 35) rfl rfl (by kernel_rfl) (fun _ _ _ h=>h) (Or.inl ⟨by rfl,?_⟩) hHeld ?_
    ·intro w' hSw;clear hSw;go_simp
    simp only[Act.put,Sz0,Sz1,Sz2];refine j3 (i:=1) (v:=.int .i64 (lo:Nat)) (some 36) rfl rfl (by kernel_rfl) (fun _ _ _ h=>h) (Or.inl ⟨by rfl,?_⟩) hHeld ?_
    ·intro w' hSw;clear hSw;go_simp
    simp only[Act.put,Sz0,Sz1,Sz2];refine j3 (i:=2) (v:=.pointer (some ⟨r,0,none⟩)) (some 37) rfl rfl (by kernel_rfl) (fun _ _ _ h=>h) (Or.inl ⟨by rfl,?_⟩) hHeld ?_
    ·intro w' hSw;clear hSw;go_simp
    simp only[Act.put,Sz0,Sz1,Sz2];refine j3 (i:=3) (v:=.pointer (some ⟨r,0,none⟩)) (some 38) rfl rfl (by kernel_rfl) (fun _ _ _ h=>h) (Or.inl ⟨by rfl,?_⟩) hHeld ?_
    ·intro w' hSw;clear hSw;go_simp
    simp only[Act.put,Sz0,Sz1,Sz2];refine j3 (i:=4) (v:=.pointer (some ⟨r,0,none⟩)) (some 39) rfl rfl (by kernel_rfl) (fun _ _ _ h=>h) (Or.inl ⟨by rfl,?_⟩) hHeld ?_
    ·intro w' hSw;clear hSw;go_simp
    simp only[Act.put,Sz0,Sz1,Sz2];refine j3 (i:=5) (v:=.slice (some ⟨b,0,none⟩) n cp) (some 40) rfl rfl (by kernel_rfl) (fun _ _ _ h=>h) (Or.inl ⟨by rfl,?_⟩) hHeld ?_
    ·intro w' hSw;have s0:=HA.out w' hSw;clear hSw;go_simp
    simp only[Act.put,Sz0,Sz1,Sz2];refine j3 (i:=6) (v:=.int .i64 (n:Nat)) (some 41) rfl rfl (by kernel_rfl) (fun _ _ _ h=>h) (Or.inl ⟨by rfl,?_⟩) hHeld ?_
    ·intro w' hSw;clear hSw;go_simp
    simp only[Act.put,Sz0,Sz1,Sz2];refine j3 (i:=7) (v:=.bool true) (some 42) rfl rfl (by kernel_rfl) (fun _ _ _ h=>h) (Or.inl ⟨by rfl,?_⟩) hHeld ?_
    ·intro w' hSw;clear hSw;go_simp
    simp only[Act.put,Sz0,Sz1,Sz2];refine j3 (i:=8) (v:=.bool true) (some 43) rfl rfl (by kernel_rfl) (fun _ _ _ h=>h) (Or.inl ⟨by rfl,?_⟩) hHeld ?_
    ·intro w' hSw;clear hSw;go_simp
    simp only[Act.put,Sz0,Sz1,Sz2];refine j3 (i:=9) (v:=.pointer (some ⟨r,0,none⟩)) (some 44) rfl rfl (by kernel_rfl) (fun _ _ _ h=>h) (Or.inl ⟨by rfl,?_⟩) hHeld ?_
    ·intro w' hSw;clear hSw;go_simp
    simp only[Act.put,Sz0,Sz1,Sz2];refine j3 (i:=10) (v:=.pointer (some ⟨r,0,none⟩)) (some 45) rfl rfl (by kernel_rfl) (fun _ _ _ h=>h) (Or.inl ⟨by rfl,?_⟩) hHeld ?_
    ·intro w' hSw;clear hSw;go_simp
    simp only[Act.put,Sz0,Sz1,Sz2];refine j3 (i:=11) (v:=.pointer (some ⟨r,0,none⟩)) (some 46) rfl rfl (by kernel_rfl) (fun _ _ _ h=>h) (Or.inl ⟨by rfl,?_⟩) hHeld ?_
    ·intro w' hSw;clear hSw;go_simp
    simp only[Act.put,Sz0,Sz1,Sz2];refine j3 (i:=12) (v:=.slice (some ⟨b,0,none⟩) n cp) (some 47) rfl rfl (by kernel_rfl) (fun _ _ _ h=>h) (Or.inl ⟨by rfl,?_⟩) hHeld ?_
    ·intro w' hSw;have s0:=HA.out w' hSw;clear hSw;go_simp
    simp only[Act.put,Sz0,Sz1,Sz2];refine j3 (i:=13) (v:=.int .i64 (lo:Nat)) (some 48) rfl rfl (by kernel_rfl) (fun _ _ _ h=>h) (Or.inl ⟨by rfl,?_⟩) hHeld ?_
    ·intro w' hSw;clear hSw;go_simp
    simp only[Act.put,Sz0,Sz1,Sz2];refine j3 (i:=14) (v:=.pointer (some ⟨b,lo*23,none⟩)) (some 49) rfl rfl (by kernel_rfl) (fun _ _ _ h=>h) (Or.inl ⟨by rfl,?_⟩) hHeld ?_
    ·intro w' hSw;clear hSw;go_simp
    simp only[Act.put,Sz0,Sz1,Sz2];refine j3 (i:=15) (v:=.pointer (some ⟨b,lo*23,none⟩)) (some 50) rfl rfl (by kernel_rfl) (fun _ _ _ h=>h) (Or.inl ⟨by rfl,?_⟩) hHeld ?_
    ·intro w' hSw;clear hSw;go_simp
    simp only[Act.put,Sz0,Sz1,Sz2];refine j3 (i:=16) (v:=.agg #[.int .i64 x.1.1,.int .i64 x.1.2]) (some 51) rfl rfl (by kernel_rfl) (fun _ _ _ h=>h) (Or.inl ⟨by rfl,fun w' hSw=>L3 57 (.tmp 50) rfl b (lo*23) rfl [.int .i64 x.1.1,.int .i64 x.1.2] _ (HRx.out w' hSw) Tryz.underlying57 rfl F4⟩) hHeld ?_;simp only[Act.put,Sz0,Sz1,Sz2];refine j3 (i:=17) (v:=.agg #[.int .i64 c,.int .i64 s]) (some 52) rfl rfl (by kernel_rfl) (fun _ _ _ h=>h) (Or.inl ⟨by rfl,fun w' hSw=>L3 57 (.tmp 3) rfl w.heap.size 0 rfl [.int .i64 c,.int .i64 s] _ (j0R (HC.out w' hSw)) Tryz.underlying57 rfl F4⟩) hHeld ?_;simp only[Act.put,Sz0,Sz1,Sz2];refine j3 (i:=18) (v:=.bool E) (some 53) rfl rfl (by kernel_rfl) (fun _ _ _ h=>h) (Or.inl ⟨by rfl,?_⟩) hHeld ?_
    ·intro w' hSw;have s0:=HEq.out;clear hSw;go_simp
    simp only[Act.put,Sz0,Sz1,Sz2];refine j3 (i:=19) (v:=.bool E) (some 54) rfl rfl (by kernel_rfl) (fun _ _ _ h=>h) (Or.inl ⟨by rfl,?_⟩) hHeld ?_
    ·intro w' hSw;clear hSw;go_simp
    simp only[Act.put,Sz0,Sz1,Sz2];refine j3 (i:=20) (v:=.int .i64 (lo:Nat)) (some 4) rfl rfl (by kernel_rfl) (fun _ _ _ h=>h) (Or.inl ⟨by rfl,?_⟩) hHeld ?_
    ·intro w' hSw;clear hSw;go_simp
    simp only[Act.put,Sz0,Sz1,Sz2];refine j3 (i:=21) (v:=.bool E) (some 5) rfl rfl (by kernel_rfl) (fun _ _ _ h=>h) (Or.inl ⟨by rfl,?_⟩) hHeld ?_
    ·intro w' hSw;clear hSw;go_simp
    simp only[Act.put,Sz0,Sz1,Sz2];refine wpAnyH_done (by kernel_rfl) ?_ _;refine NoPanic.normal ?_;go_wp2_with fail;refine bodyPost_ret (results_tmp2 rfl _ _ _) rfl ?_;exact⟨⟨lo,by rw[HIs.out];rfl,HPl.out⟩,HK0.out.trans HKr.out.drew⟩
   ·have hln:lo=n:=Nat.le_antisymm HHI.out (Nat.not_lt.1 hl);subst hln;have HIs:Hid (isK K lo (c,s)=false):=by
     show _=_;unfold isK;rw[List.getElem?_eq_none (by have:=HN.out.1;omega)]
    clear hl;go_wp2_with fail;refine wp_region_noPanic ?_;refine F5 (fun w':World=>Kp W w' Nul) (by kernel_rfl) (HKr.out.drew) (fun hHeld=>?_);refine j3 (i:=0) (v:=.int .i64 (lo:Nat)) (some 35) rfl rfl (by kernel_rfl) (fun _ _ _ h=>h) (Or.inl ⟨by rfl,?_⟩) hHeld ?_
    ·intro w' hSw;clear hSw;go_simp
    simp only[Act.put,Sz0,Sz1,Sz2];refine j3 (i:=1) (v:=.int .i64 (lo:Nat)) (some 36) rfl rfl (by kernel_rfl) (fun _ _ _ h=>h) (Or.inl ⟨by rfl,?_⟩) hHeld ?_
    ·intro w' hSw;clear hSw;go_simp
    simp only[Act.put,Sz0,Sz1,Sz2];refine j3 (i:=2) (v:=.pointer (some ⟨r,0,none⟩)) (some 37) rfl rfl (by kernel_rfl) (fun _ _ _ h=>h) (Or.inl ⟨by rfl,?_⟩) hHeld ?_
    ·intro w' hSw;clear hSw;go_simp
    simp only[Act.put,Sz0,Sz1,Sz2];refine j3 (i:=3) (v:=.pointer (some ⟨r,0,none⟩)) (some 38) rfl rfl (by kernel_rfl) (fun _ _ _ h=>h) (Or.inl ⟨by rfl,?_⟩) hHeld ?_
    ·intro w' hSw;clear hSw;go_simp
    simp only[Act.put,Sz0,Sz1,Sz2];refine j3 (i:=4) (v:=.pointer (some ⟨r,0,none⟩)) (some 39) rfl rfl (by kernel_rfl) (fun _ _ _ h=>h) (Or.inl ⟨by rfl,?_⟩) hHeld ?_
    ·intro w' hSw;clear hSw;go_simp
    simp only[Act.put,Sz0,Sz1,Sz2];refine j3 (i:=5) (v:=.slice p lo cp) (some 40) rfl rfl (by kernel_rfl) (fun _ _ _ h=>h) (Or.inl ⟨by rfl,?_⟩) hHeld ?_
    ·intro w' hSw;have s0:=HA.out w' hSw;clear hSw;go_simp
    simp only[Act.put,Sz0,Sz1,Sz2];refine j3 (i:=6) (v:=.int .i64 (lo:Nat)) (some 41) rfl rfl (by kernel_rfl) (fun _ _ _ h=>h) (Or.inl ⟨by rfl,?_⟩) hHeld ?_
    ·intro w' hSw;clear hSw;go_simp
    simp only[Act.put,Sz0,Sz1,Sz2];refine j3 (i:=7) (v:=.bool false) (some 42) rfl rfl (by kernel_rfl) (fun _ _ _ h=>h) (Or.inl ⟨by rfl,?_⟩) hHeld ?_
    ·intro w' hSw;clear hSw;go_simp
    simp only[Act.put,Sz0,Sz1,Sz2];refine j3 (i:=8) (v:=.bool false) (some 43) rfl rfl (by kernel_rfl) (fun _ _ _ h=>h) (Or.inl ⟨by rfl,?_⟩) hHeld ?_
    ·intro w' hSw;clear hSw;go_simp
    simp only[Act.put,Sz0,Sz1,Sz2];refine j3 (i:=9) (v:=undef) (some 44) rfl rfl (by kernel_rfl) (fun _ _ _ h=>h) (Or.inr ⟨by rfl,rfl⟩) hHeld ?_;simp only[Act.put,Sz0,Sz1,Sz2];refine j3 (i:=10) (v:=undef) (some 45) rfl rfl (by kernel_rfl) (fun _ _ _ h=>h) (Or.inr ⟨by rfl,rfl⟩) hHeld ?_;simp only[Act.put,Sz0,Sz1,Sz2];refine j3 (i:=11) (v:=undef) (some 46) rfl rfl (by kernel_rfl) (fun _ _ _ h=>h) (Or.inr ⟨by rfl,rfl⟩) hHeld ?_;simp only[Act.put,Sz0,Sz1,Sz2];refine j3 (i:=12) (v:=undef) (some 47) rfl rfl (by kernel_rfl) (fun _ _ _ h=>h) (Or.inr ⟨by rfl,rfl⟩) hHeld ?_;simp only[Act.put,Sz0,Sz1,Sz2];refine j3 (i:=13) (v:=undef) (some 48) rfl rfl (by kernel_rfl) (fun _ _ _ h=>h) (Or.inr ⟨by rfl,rfl⟩) hHeld ?_;simp only[Act.put,Sz0,Sz1,Sz2];refine j3 (i:=14) (v:=undef) (some 49) rfl rfl (by kernel_rfl) (fun _ _ _ h=>h) (Or.inr ⟨by rfl,rfl⟩) hHeld ?_;simp only[Act.put,Sz0,Sz1,Sz2];refine j3 (i:=15) (v:=undef) (some 50) rfl rfl (by kernel_rfl) (fun _ _ _ h=>h) (Or.inr ⟨by rfl,rfl⟩) hHeld ?_
    simp only[Act.put,Sz0,Sz1,Sz2];refine j3 (i:=16) (v:=undef) (some 51) rfl rfl (by kernel_rfl) (fun _ _ _ h=>h) (Or.inr ⟨by rfl,rfl⟩) hHeld ?_;simp only[Act.put,Sz0,Sz1,Sz2];refine j3 (i:=17) (v:=undef) (some 52) rfl rfl (by kernel_rfl) (fun _ _ _ h=>h) (Or.inr ⟨by rfl,rfl⟩) hHeld ?_;simp only[Act.put,Sz0,Sz1,Sz2];refine j3 (i:=18) (v:=undef) (some 53) rfl rfl (by kernel_rfl) (fun _ _ _ h=>h) (Or.inr ⟨by rfl,rfl⟩) hHeld ?_;simp only[Act.put,Sz0,Sz1,Sz2];refine j3 (i:=19) (v:=.bool false) (some 54) rfl rfl (by kernel_rfl) (fun _ _ _ h=>h) (Or.inl ⟨by rfl,?_⟩) hHeld ?_
    ·intro w' hSw;clear hSw;go_simp
    simp only[Act.put,Sz0,Sz1,Sz2];refine j3 (i:=20) (v:=.int .i64 (lo:Nat)) (some 4) rfl rfl (by kernel_rfl) (fun _ _ _ h=>h) (Or.inl ⟨by rfl,?_⟩) hHeld ?_
    ·intro w' hSw;clear hSw;go_simp
    simp only[Act.put,Sz0,Sz1,Sz2];refine j3 (i:=21) (v:=.bool false) (some 5) rfl rfl (by kernel_rfl) (fun _ _ _ h=>h) (Or.inl ⟨by rfl,?_⟩) hHeld ?_
    ·intro w' hSw;clear hSw;go_simp
    simp only[Act.put,Sz0,Sz1,Sz2];refine wpAnyH_done (by kernel_rfl) ?_ _;refine NoPanic.normal ?_;go_wp2_with fail;refine bodyPost_ret (results_tmp2 rfl _ _ _) rfl ?_;exact⟨⟨lo,by rw[HIs.out];rfl,HPl.out⟩,HK0.out.trans HKr.out.drew⟩
theorem j0d {P:Program}{fn:Func}{t t':Array Value}{R:Ending->World->Prop}(h:results fn t=results fn t'):∀(ds:List Deferred) (u:FrameMode) (w:World),Leaves P fn t R ds u w->Leaves P fn t' R ds u w
 | [],.returning,w,hl=>by unfold Leaves at *;rw[<- h];exact hl
 | [],.panicking _,w,hl=>by unfold Leaves at *;exact hl
 | [],.run,w,hl=>by unfold Leaves at *;exact hl
 | d::ds,u,w,hl=>by
  unfold Leaves at *;obtain⟨h1,fv,cap,f,args,h2,h3,h4⟩:=hl;refine⟨h1,fv,cap,f,args,h2,h3,h4.mono ?_⟩;intro e u' w' hh;cases e with
  | returned _=>exact j0d h ds _ _ hh
  | panicked _=>exact j0d h ds _ _ hh
  | outgrown=>exact hh
inductive ShP (w:World):Option (List Cc)->Ending->World->Prop
 | ok {K:List Cc} {g:Nat} {w':World} (gi:GI w.heap.size w' g K.reverse) (kp:Kp w w' Nul):ShP w (some K) (.returned (.tuple #[.pointer (some ⟨g,0,none⟩),.int .i64 0])) w'
 | no {w':World} (kp:Kp w w' Nul):ShP w none (.returned (.tuple #[.pointer none,.int .i64 3])) w'
theorem j2s (a:Act)(i:Nat)(v:Value)(hi:3<i):results Tryz.f81 (a.put (some i) v).tmps=results Tryz.f81 a.tmps:=by
 have e2:(a.put (some i) v).tmps[2]? = a.tmps[2]?:=by simp[Act.put,Array.getElem?_setIfInBounds];omega
 have e3:(a.put (some i) v).tmps[3]? = a.tmps[3]?:=by simp[Act.put,Array.getElem?_setIfInBounds];omega
 unfold results;rw[Tryz.results81];simp[e2,e3]
structure ShI (w:World) (O:Option (List Cc×List UInt8)) (n:Nat) (K:List Cc) (la:Int×Int) (d:List UInt8) (k:Int) (W:World):Prop where
 ans:rSh n la K d=O
 rd:Rr W (w.heap.size+2) d k
 gr:j9 W (fun i=>i=w.heap.size+3∨w.heap.size+5<=i) (w.heap.size+3) K.reverse
 up:Upto K la
 ln:K.length<=4096
 b0:Blk W w.heap.size [.pointer (some ⟨w.heap.size+3,0,none⟩)] 23
 b1:Blk W (w.heap.size+1) [.int .i64 0] 27
 b4:Blk W (w.heap.size+4) [.int .i64 la.1,.int .i64 la.2] 57
 kp:Kp w W Nul
 sz:w.heap.size+5<=W.heap.size
theorem j0J {w W:World}{o:Option (List Cc)}{vp vq:Value}{T1 T2:TypeId}(ho:o=none)(hk:Kp w W Nul)(hp:Blk W w.heap.size [vp] T1)(hq:Blk W (w.heap.size+1) [vq] T2)(t0 t1:Value)(ts:List Value):
 bodyPostD Tryz.prog Tryz.f81 (fun e w'=>ShP w o e w') (Exit.panic ef) { tmps:=(t0::t1 :: .pointer (some ⟨w.heap.size,0,none⟩) :: .pointer (some ⟨w.heap.size+1,0,none⟩)::ts).toArray,defers:=[{ target:=.fn (.func 131) #[.pointer (some ⟨w.heap.size,0,none⟩),.pointer (some ⟨w.heap.size+1,0,none⟩)],args:=#[] }] } W:=by
 refine jDz _ _ _ vp vq t0 t1 ts W hp hq (by omega) (fun V hV=>?_);rw[ho];exact .no (hk.trans' hV (fun i hi e=>by rcases e with e|e <;> omega))
theorem jDy {w W:World}{o:Option (List Cc)}{K:List Cc}{g:Nat}{T1 T2:TypeId}(ho:o=some K)(hk:Kp w W Nul)(hg:GI w.heap.size W g K.reverse)(hp:Blk W w.heap.size [.pointer (some ⟨g,0,none⟩)] T1)(hq:Blk W (w.heap.size+1) [.int .i64 0] T2)(t0 t1:Value)(ts:List Value):
 bodyPostD Tryz.prog Tryz.f81 (fun e w'=>ShP w o e w') Exit.ret { tmps:=(t0::t1 :: .pointer (some ⟨w.heap.size,0,none⟩) :: .pointer (some ⟨w.heap.size+1,0,none⟩)::ts).toArray,defers:=[{ target:=.fn (.func 131) #[.pointer (some ⟨w.heap.size,0,none⟩),.pointer (some ⟨w.heap.size+1,0,none⟩)],args:=#[] }] } W:=by
 refine jE0 _ _ _ _ _ t0 t1 ts W hp hq ?_;rw[ho];exact .ok hg hk
theorem jDx (l:List UInt8)(w:World)(hs:Sh w)(U:VS w):
 Calls Tryz.prog 81 #[.string ⟨l.toArray⟩] w fun e w'=>ShP w (L9 l) e w':=by
 obtain⟨o,ho⟩:∃o,L9 l=o:=⟨_,rfl⟩;rw[ho];have HO:Hid (o=L9 l):=ho.symm;have hmf:∀(fn:Fn) (first cap:Array Value) (w:World),(Instr.makeFunc fn first cap).run Tryz.prog w=.ok (.func fn first cap) w:=fun _ _ _ _=>rfl
 obtain⟨W1,hW1⟩:∃W1,((w.alloc (.cells #[.pointer none] 23)).alloc (.cells #[.int .i64 0] 27)).alloc (.cells #[.string ⟨l.toArray⟩,.int .i64 0] 114)=W1:=⟨_,rfl⟩;have HW1:Hid (((w.alloc (.cells #[.pointer none] 23)).alloc (.cells #[.int .i64 0] 27)).alloc (.cells #[.string ⟨l.toArray⟩,.int .i64 0] 114)=W1):=hW1;have s1:W1.heap.size=w.heap.size+3:=by rw[<- hW1,World.size_alloc,World.size_alloc,World.size_alloc]
 have k1:Kp w W1 Nul:=by rw[<- hW1];exact(((Kp.refl w Nul).alloc _).alloc _).alloc _
 have b0:Blk W1 w.heap.size [.pointer none] 23:=by rw[<- hW1];exact((Blk.new w [.pointer none] _).alloc _).alloc _
 have b1:Blk W1 (w.heap.size+1) [.int .i64 0] 27:=by
  have:=Blk.new (w.alloc (.cells #[.pointer none] 23)) [.int .i64 0] 27;rw[World.size_alloc] at this;rw[<- hW1];exact this.alloc _
 have b2:Rr W1 (w.heap.size+2) l 0:=by
  have:=Blk.new ((w.alloc (.cells #[.pointer none] 23)).alloc (.cells #[.int .i64 0] 27)) [.string ⟨l.toArray⟩,.int .i64 0] 114;rw[World.size_alloc,World.size_alloc] at this;rw[<- hW1];exact this
 obtain⟨W2,hW2⟩:∃W2,W1.alloc (.cells #[.map none] 124)=W2:=⟨_,rfl⟩;have HNew:Hid (Calls Tryz.prog 24 #[] W1 fun e w'=>e=.returned (.pointer (some ⟨w.heap.size+3,0,none⟩))/\w'=W2):=(j4v W1).mono (by
  rintro e w' ⟨rfl,rfl⟩;rw[s1];exact⟨rfl,hW2⟩)
 have k12:Kp W1 W2 Nul:=by rw[<- hW2];exact(Kp.refl W1 Nul).alloc _
 have g2:j9 W2 (fun i=>i=w.heap.size+3∨w.heap.size+5<=i) (w.heap.size+3) []:=by
  have:=j4T W1 (fun i=>i=w.heap.size+3∨w.heap.size+5<=i) (.inl s1);rw[s1] at this;rw[<- hW2];exact this
 have c0:W2.cell? ⟨w.heap.size,0,none⟩=some (.pointer none):=(b0.kp k12 (fun x=>x)).cell rfl;have f0:W2.frozen? ⟨w.heap.size,0,none⟩=false:=(b0.kp k12 (fun x=>x)).froz 0;obtain⟨W3,hW3⟩:∃W3,W2.setCell ⟨w.heap.size,0,none⟩ (.pointer (some ⟨w.heap.size+3,0,none⟩))=W3:=⟨_,rfl⟩;have HW3:Hid (W2.setCell ⟨w.heap.size,0,none⟩ (.pointer (some ⟨w.heap.size+3,0,none⟩))=W3):=hW3;obtain⟨W4,hW4⟩:∃W4,W3.alloc (.cells #[.int .i64 0,.int .i64 0] 57)=W4:=⟨_,rfl⟩;have HW4:Hid (W3.alloc (.cells #[.int .i64 0,.int .i64 0] 57)=W4):=hW4;have s2:W2.heap.size=w.heap.size+4:=by rw[<- hW2,World.size_alloc,s1]
 have k23:Kp W2 W3 (fun i=>i=w.heap.size):=by rw[<- hW3];exact(Kp.refl _ _).setCell _ _ (.inr rfl)
 have s3:W3.heap.size=w.heap.size+4:=by rw[<- hW3,World.size_setCell,s2]
 have k34:Kp W3 W4 Nul:=by rw[<- hW4];exact(Kp.refl _ _).alloc _
 have k4:Kp w W4 Nul:=((k1.trans k12).trans' k23 (fun i hi e=>by have e':i=w.heap.size:=e;omega)).trans k34;have HR4:Hid (Rr W4 (w.heap.size+2) l 0):=((b2.kp k12 (fun x=>x)).kp k23 (fun e=>by omega)).kp k34 (fun x=>x);have HG4:Hid (j9 W4 (fun i=>i=w.heap.size+3∨w.heap.size+5<=i) (w.heap.size+3) []):=(g2.far k23 (fun i hi e=>by have e':i=w.heap.size:=e;omega)).kp k34;have HB0:Hid (Blk W4 w.heap.size [.pointer (some ⟨w.heap.size+3,0,none⟩)] 23):=by
  have:Blk W3 w.heap.size [.pointer (some ⟨w.heap.size+3,0,none⟩)] 23:=by rw[<- hW3];exact(b0.kp k12 (fun x=>x)).set 0 _
  exact this.kp k34 (fun x=>x)
 have HB1:Hid (Blk W4 (w.heap.size+1) [.int .i64 0] 27):=((b1.kp k12 (fun x=>x)).kp k23 (fun e=>by omega)).kp k34 (fun x=>x);have HB4:Hid (Blk W4 (w.heap.size+4) [.int .i64 0,.int .i64 0] 57):=by
  have:=Blk.new W3 [.int .i64 0,.int .i64 0] 57;rw[s3] at this;show Blk _ _ _ _;rw[<- hW4];exact this
 have HK4:Hid (Kp w W4 Nul):=k4;have HZ4:Hid (W4.heap.size=w.heap.size+5):=by show _=_;rw[<- hW4,World.size_alloc,s3]
 have HS3:Hid (W3.heap.size=w.heap.size+4):=s3;have HNum:Hid (Calls Tryz.prog 52 #[.pointer (some ⟨w.heap.size+2,0,none⟩),.int .i64 2] W4 fun e w'=>RdP (w.heap.size+2) W4 0 ((rNum 2 l).map fun p=>(.int .u64 p.1,p.2)) e w'):=j0H _ l 0 2 W4 HR4.out (by decide);have HPl:Hid (∀d k W,Rr W (w.heap.size+2) d k->Calls Tryz.prog 132 #[.pointer (some ⟨w.heap.size+2,0,none⟩)] W fun e w'=>RdP (w.heap.size+2) W k ((rPl d).map fun p=>(.agg #[.int .i64 p.1.1,.int .i64 p.1.2],p.2)) e w'):=fun d k W h=>j5r _ d k W h
 have HOrd:Hid (∀a b c r w,Calls Tryz.prog 134 #[.agg #[.int .i64 a,.int .i64 b],.agg #[.int .i64 c,.int .i64 r]] w fun e w'=>e=.returned (.int .i64 (ordC a b c r))/\Kp w w' Nul):=fun a b c r w=>(j55 a b c r w).mono fun e w' h=>⟨h.1,h.2.kp⟩
 have hsg:w.heap.size+2 ≠ 1:=by have:=hs.lt;omega
 have HCt:Hid (∀d k W,Rr W (w.heap.size+2) d k->Kp w W Nul->Calls Tryz.prog 135 #[.pointer (some ⟨w.heap.size+2,0,none⟩)] W fun e w'=>RcP (w.heap.size+2) W (rCt d) e w'):=fun d k W h kq=>jCc _ hsg d k W h (hs.kp kq (fun x=>x))
 have HPut:Hid (∀(c r:Int) (ct:Ct) (sl:Value) (F:Nat->Prop) (K:List Cc) (W:World),j9 W (fun i=>i=w.heap.size+3∨w.heap.size+5<=i) (w.heap.size+3) K.reverse->w.heap.size+5<=W.heap.size->K.length<=4096->Rd ct->(∀c',((c,r),c')∉K)->NdIn W F sl ct.t->Kp w W Nul ->
  Calls Tryz.prog 25 #[.pointer (some ⟨w.heap.size+3,0,none⟩),.agg #[.int .i64 c,.int .i64 r],ct.val sl] W fun e w'=>∃er:Int,e=.returned (.int .i64 er)/\(er==0)=rOk K c r ct/\(rOk K c r ct=true->j9 w' (fun i=>i=w.heap.size+3∨w.heap.size+5<=i) (w.heap.size+3) (K++[((c,r),ct)]).reverse)/\Km (w.heap.size+3) W w'):=fun c r ct sl F K W hg hz hl hr hn hi kq=>jC1 _ _ c r ct sl F K W hg (fun i hi=>.inr (by omega)) hl hr hn hi (U.kp kq)
 have HM1:Hid (∀v w,Calls Tryz.prog 133 #[v,.bool true] w fun e w'=>e=.returned (.tuple #[])/\w'=w):=j0f;have HM0:Hid (∀v w,Calls Tryz.prog 133 #[v,.bool false] w fun e w'=>e=.panicked ef/\w'=w):=Y3;clear hs U ho hW1 hW2 hW3 hW4 s1 s2 s3 k1 k12 k23 k34 k4 b0 b1 b2 g2 hsg
 go_enter_defers Tryz.func81,Tryz.ntmps81
 go_wp2_with (first|(rw[HW1.out])|fail);refine HNew.out.mono ?_;rintro e w2 ⟨rfl,hz⟩;replace hz:=hz.symm;subst hz;clear HNew HW1;go_wp2_with (first|(rw[HW3.out])|fail);rw[HW4.out,HS3.out];refine HNum.out.mono ?_;intro e w5 hr;cases hq:rNum 2 l with
 | none=>
  rw[hq] at hr;cases hr with
  | no kp5=>
   have HFN:Hid (o=none/\Kp w w5 Nul/\Blk w5 w.heap.size [.pointer (some ⟨w.heap.size+3,0,none⟩)] 23/\Blk w5 (w.heap.size+1) [.int .i64 0] 27):=
    ⟨by rw[HO.out,L9,hq];rfl,HK4.out.trans' kp5 (fun i hi e=>by omega),HB0.out.kp kp5 (fun e=>by omega),HB1.out.kp kp5 (fun e=>by omega)⟩
   clear kp5 hq;go_wp2_with fail;exact j0J HFN.out.1 HFN.out.2.1 HFN.out.2.2.1 HFN.out.2.2.2 _ _ _
 | some p=>
 obtain⟨n,d0⟩:=p;rw[hq] at hr;cases hr with
 | ok h5 kp5=>
 have hn:n<65536:=Y8 hq;obtain⟨O,hO⟩:∃O,rSh n (0,0) [] d0=O:=⟨_,rfl⟩;have HO2:Hid (o=O.bind fun q=>if q.2=[] then some q.1 else none):=by show _=_;rw[HO.out,L9,hq,<- hO];rfl
 have HI0:Hid (ShI w O n [] (0,0) d0 0 w5):=by
  have:=HZ4.out;have:=kp5.size;exact⟨hO,h5,HG4.out.far kp5 (fun i hi e=>by have e':i=w.heap.size+2:=e;omega),Upto.nil _,by simp,HB0.out.kp kp5 (fun e=>by omega),HB1.out.kp kp5 (fun e=>by omega),HB4.out.kp kp5 (fun e=>by omega),HK4.out.trans' kp5 (fun i hi e=>by omega),by omega⟩
 have HN:Hid (n<65536):=hn;clear h5 kp5 hq hO hn HO HNum HR4 HG4 HB0 HB1 HB4 HK4 HZ4 HS3 HW3 HW4 c0 f0;go_wp2_with fail;go_loopw[13] (fun si wr=>∃(i:Nat) (K:List Cc) (la:Int×Int) (d:List UInt8) (k:Int),i<=n/\si=.int .u64 i/\ShI w O (n-i) K la d k wr) (fun si _=>((n:Int)-RowKit.intOf si).toNat)
 case atStart=>exact⟨0,[],(0,0),d0,0,Nat.zero_le _,by simp,HI0.out⟩
 case round=>
  obtain⟨i,K,la,d,k,hi,rfl,hI⟩:=hrel;by_cases hlt:i<n
  ·have hlt':(i:Int)<(n:Int):=(by omega);have HLT:Hid (i<n):=hlt;obtain⟨m,hm⟩:∃m,n-i=m+1:=⟨n-i-1,by omega⟩;rw[hm] at hI;have HMm:Hid (n-(i+1)=m):=(by show _=_;omega);have HI:Hid (ShI w O (m+1) K la d k wr):=hI;have HOUT:Hid (∀W,O=none->Kp wr W (fun j=>j=w.heap.size+2∨w.heap.size+3=j∨w.heap.size+5<=j)->o=none/\Kp w W Nul/\Blk W w.heap.size [.pointer (some ⟨w.heap.size+3,0,none⟩)] 23/\Blk W (w.heap.size+1) [.int .i64 0] 27):=fun W e kq=>
    ⟨by rw[HO2.out,e];rfl,hI.kp.trans' kq (fun j hj e=>by omega),hI.b0.kp kq (fun e=>by omega),hI.b1.kp kq (fun e=>by omega)⟩
   clear hI hi hm hlt;go_wp2_with fail;refine(HPl.out d k wr HI.out.rd).mono ?_;intro e w1 hr;cases hq:rPl d with
   | none=>
    rw[hq] at hr;cases hr with
    | no kp1=>
     have HFN:=HOUT.out w1 (by rw[<- HI.out.ans,rSh,hq];rfl) (kp1.mono fun j hj e=>.inl e);have HFN':Hid (o=none/\Kp w w1 Nul/\Blk w1 w.heap.size [.pointer (some ⟨w.heap.size+3,0,none⟩)] 23/\Blk w1 (w.heap.size+1) [.int .i64 0] 27):=HFN;clear kp1 hq HFN;go_wp2_with fail;exact j0J HFN'.out.1 HFN'.out.2.1 HFN'.out.2.2.1 HFN'.out.2.2.2 _ _ _
   | some p=>
   obtain⟨⟨c,r⟩,d1⟩:=p;rw[hq] at hr;cases hr with
   | ok h1 kp1=>
   obtain⟨ci,hci⟩:∃ci:Int,(c:Int)=ci:=⟨_,rfl⟩;obtain⟨ri,hri⟩:∃ri:Int,(r:Int)=ri:=⟨_,rfl⟩;simp only[hci,hri];obtain⟨wA,hwA⟩:∃wA,w1.alloc (.cells #[.int .i64 ci,.int .i64 ri] 57)=wA:=⟨_,rfl⟩;have HWA:Hid (w1.alloc (.cells #[.int .i64 ci,.int .i64 ri] 57)=wA):=hwA;have kA:Kp w1 wA Nul:=(by rw[<- hwA];exact(Kp.refl _ _).alloc _);have HbA:Hid (Blk wA w1.heap.size [.int .i64 ci,.int .i64 ri] 57):=(by show Blk _ _ _ _;rw[<- hwA];exact Blk.new w1 _ _);have HkA:Hid (Kp wr wA (fun j=>j=w.heap.size+2)):=kp1.trans kA.of_nul;have HrA:Hid (Rr wA (w.heap.size+2) d1 k):=h1.kp kA (fun x=>x);have HbL:Hid (Blk wA (w.heap.size+4) [.int .i64 la.1,.int .i64 la.2] 57):=HI.out.b4.kp HkA.out (fun e=>by omega);have HsA:Hid (wr.heap.size<=w1.heap.size/\wA.heap.size=w1.heap.size+1):=⟨kp1.size,by rw[<- hwA,World.size_alloc]⟩;have HQ1:Hid (O=if ltOf cfA la (ci,ri)=true then (rCt d1).bind fun q=>if rOk K ci ri q.1=true then rSh m (ci,ri) (K++[((ci,ri),q.1)]) q.2 else none else none):=by
    show _=_;rw[<- HI.out.ans,rSh,hq,Option.bind_some];simp only[hci,hri]
   clear h1 kp1 hq hwA kA hci hri;obtain⟨x,y⟩:=la;have hL0:(w1.alloc (.cells #[.int .i64 ci,.int .i64 ri] 57)).cell? ⟨w.heap.size+4,0,none⟩=some (.int .i64 x):=(by rw[HWA.out];exact HbL.out.cell rfl);have hL1:(w1.alloc (.cells #[.int .i64 ci,.int .i64 ri] 57)).cell? ⟨w.heap.size+4,1,none⟩=some (.int .i64 y):=(by rw[HWA.out];exact HbL.out.cell rfl);go_wp2_with fail;clear hL0 hL1;rw[HWA.out];refine(HOrd.out _ _ _ _ _).mono ?_;rintro e w2 ⟨rfl,k2⟩;have HQ1':Hid (O=if decide (ordC x y ci ri<0)=true then (rCt d1).bind fun q=>if rOk K ci ri q.1=true then rSh m (ci,ri) (K++[((ci,ri),q.1)]) q.2 else none else none):=HQ1.out;have HltB:Hid (decide (ordC x y ci ri<0)=true->ltOf cfA (x,y) (ci,ri)=true):=(fun h=>h);obtain⟨ob,hob⟩:∃ob,ordC x y ci ri=ob:=⟨_,rfl⟩;rw[hob] at HQ1' HltB ⊢;obtain⟨B,hB⟩:∃B,decide (ob<0)=B:=⟨_,rfl⟩;rw[hB] at HQ1' HltB;have Hk2:Hid (Kp wr w2 (fun j=>j=w.heap.size+2)):=HkA.out.trans k2.of_nul
   have Hb2:Hid (Blk w2 w1.heap.size [.int .i64 ci,.int .i64 ri] 57):=HbA.out.kp k2 (fun x=>x);have Hr2:Hid (Rr w2 (w.heap.size+2) d1 k):=HrA.out.kp k2 (fun x=>x);have Hs2:Hid (w1.heap.size<w2.heap.size):=(by show _<_;have:=k2.size;have:=HsA.out;omega);clear k2 hob HkA HbA HrA HQ1 HbL HWA;cases B with
   | false=>
    have HFN:Hid (o=none/\Kp w w2 Nul/\Blk w2 w.heap.size [.pointer (some ⟨w.heap.size+3,0,none⟩)] 23/\Blk w2 (w.heap.size+1) [.int .i64 0] 27):=HOUT.out w2 (by rw[HQ1'.out,if_neg (by decide)]) (Hk2.out.mono fun j hj e=>.inl e);go_wp2_with fail;refine(HM0.out _ _).mono ?_;rintro e w3 ⟨rfl,hz⟩;replace hz:=hz.symm;subst hz;go_wp2_with fail;exact j0J HFN.out.1 HFN.out.2.1 HFN.out.2.2.1 HFN.out.2.2.2 _ _ _
   | true=>
   have HQ2:Hid (O=(rCt d1).bind fun q=>if rOk K ci ri q.1=true then rSh m (ci,ri) (K++[((ci,ri),q.1)]) q.2 else none):=(by show _=_;rw[HQ1'.out,if_pos rfl]);have HLA:Hid (ltOf cfA (x,y) (ci,ri)=true):=HltB.out rfl;clear HQ1' HltB;go_wp2_with fail;refine(HM1.out _ _).mono ?_;rintro e w3 ⟨rfl,hz⟩;replace hz:=hz.symm;subst hz;clear hB;go_wp2_with fail;refine F5 (fun w':World=>Blk w' w.heap.size [.pointer (some ⟨w.heap.size+3,0,none⟩)] 23/\Blk w' w1.heap.size [.int .i64 ci,.int .i64 ri] 57) (by kernel_rfl) ⟨HI.out.b0.kp Hk2.out.drew (fun e=>by omega),Hb2.out⟩ (fun hHeld=>?_);refine j3 (i:=0) (v:=.pointer (some ⟨w.heap.size+3,0,none⟩)) (some 21) rfl rfl (by kernel_rfl) (fun c a w h=>j0d (j2s a 21 _ (by decide)) _ _ _ h) (Or.inl ⟨by rfl,?_⟩) hHeld ?_
   ·intro w' hSw;have s0:=hSw.1.cell (i:=0) rfl;clear hSw;go_simp
   simp only[Act.put,Sz0,Sz1,Sz2];refine j3 (i:=1) (v:=.agg #[.int .i64 ci,.int .i64 ri]) (some 22) rfl rfl (by kernel_rfl) (fun c a w h=>j0d (j2s a 22 _ (by decide)) _ _ _ h) (Or.inl ⟨by rfl,?_⟩) hHeld ?_
   ·intro w' hSw;have s0:=hSw.2.cell (i:=0) rfl;have s1:=hSw.2.cell (i:=1) rfl;clear hSw;go_simp
   simp only[Act.put,Sz0,Sz1,Sz2];refine D9 (i:=2) (by kernel_rfl) rfl rfl (fun KK hKK=>?_);go_simp;have HkD:Hid (Kp wr w2.drew (fun j=>j=w.heap.size+2)):=Hk2.out.drew;have HkDw:Hid (Kp w w2.drew Nul):=HI.out.kp.trans' HkD.out (fun j hj e=>by have e':j=w.heap.size+2:=e;omega);have HrD:Hid (Rr w2.drew (w.heap.size+2) d1 k):=Hr2.out;have HsD:Hid (w1.heap.size<w2.drew.heap.size/\wr.heap.size<=w1.heap.size):=⟨Hs2.out,HsA.out.1⟩;generalize w2.drew=wD at *;refine(HCt.out d1 k wD HrD.out HkDw.out).mono ?_;intro e w4 hr;cases hq:rCt d1 with
   | none=>
    rw[hq] at hr;cases hr with
    | no kp4=>
     have HFN:=HOUT.out w4 (by rw[HQ2.out,hq];rfl) ((HkD.out.trans kp4).mono fun j hj e=>.inl e);exact j0J HFN.1 HFN.2.1 HFN.2.2.1 HFN.2.2.2 _ _ _
   | some p=>
   obtain⟨ct,d2⟩:=p;rw[hq] at hr;cases hr with
   | @ok _ _ k4 sl fp _ h4 own4 kp4=>
   have hrd:Rd ct:=j5F hq;have k4w:Kp wr w4 (fun j=>j=w.heap.size+2):=HkD.out.trans kp4;have k4W:Kp w w4 Nul:=HkDw.out.trans' kp4 (fun j hj e=>by have e':j=w.heap.size+2:=e;omega);have hgr4:j9 w4 (fun i=>i=w.heap.size+3∨w.heap.size+5<=i) (w.heap.size+3) K.reverse:=HI.out.gr.far k4w (fun i hi e=>by have e':i=w.heap.size+2:=e;omega);have hS4:=hHeld;refine hKK.out _ _ ⟨HI.out.b0.kp k4w (fun e=>by omega),hHeld.2.kp kp4 (fun e=>by have:=HsD.out;have:=HI.out.sz;omega)⟩ (fun hHeld=>?_);clear hKK KK
   (try simp only[Act.put,Sz0,Sz1,Sz2])
   refine D9 (i:=3) (by kernel_rfl) rfl rfl (fun KK hKK=>?_);go_simp;have hz4:w.heap.size+5<=w4.heap.size:=(by have:=k4w.size;have:=HI.out.sz;omega);refine(HPut.out ci ri ct sl _ K w4 hgr4 hz4 HI.out.ln hrd (fun c'=>HI.out.up.not HLA.out c') own4.isIn k4W).mono ?_;rintro e w5 ⟨er,rfl,her,hG5,km5⟩;have hne1:w1.heap.size≠w.heap.size+3:=(by have:=HsD.out;have:=HI.out.sz;omega);refine hKK.out _ _ ⟨km5.blk hHeld.1 (by omega),km5.blk hHeld.2 hne1⟩ (fun hHeld=>?_);clear hKK KK
   (try simp only[Act.put,Sz0,Sz1,Sz2])
   refine j3 (i:=4) (v:=.bool (er==0)) (some 25) rfl rfl (by kernel_rfl) (fun c a w h=>j0d (j2s a 25 _ (by decide)) _ _ _ h) (Or.inl ⟨by rfl,?_⟩) hHeld ?_
   ·intro w' hSw;clear hSw;go_simp
   (try simp only[Act.put,Sz0,Sz1,Sz2])
   rw[her];have k5:Kp wr w5 (fun j=>j=w.heap.size+2∨w.heap.size+3=j∨w.heap.size+5<=j):=(k4w.mono (fun j hj e=>.inl e)).trans' km5.kp (fun j hj e=>by have:=j2I hgr4 e;omega);refine D9 (i:=5) (by kernel_rfl) rfl rfl (fun KK hKK=>?_);cases hB:rOk K ci ri ct with
   | false=>
    go_simp;refine(HM0.out _ _).mono ?_;rintro e w6 ⟨rfl,hz⟩;replace hz:=hz.symm;subst hz;have HFN:=HOUT.out w5 (by rw[HQ2.out,hq,Option.bind_some];simp only;rw[hB,if_neg (by decide)]) k5;exact j0J HFN.1 HFN.2.1 HFN.2.2.1 HFN.2.2.2 _ _ _
   | true=>
   go_simp;refine(HM1.out _ _).mono ?_;rintro e w6 ⟨rfl,hz⟩;replace hz:=hz.symm;subst hz;refine hKK.out _ _ hHeld (fun hHeld=>?_);clear hKK KK
   (try simp only[Act.put,Sz0,Sz1,Sz2])
   refine wpAnyH_done (by kernel_rfl) ?_ _
   (try simp only[Act.put,Sz0,Sz1,Sz2])
   have hk45:Kp w4 w5 (fun j=>w.heap.size+3=j∨w.heap.size+5<=j):=km5.kp.mono (fun j hj e=>by have:=j2I hgr4 e;omega);have hb45:Blk w5 (w.heap.size+4) [.int .i64 x,.int .i64 y] 57:=HI.out.b4.kp k5 (fun e=>by omega);have e0:w5.cell? ⟨w.heap.size+4,0,none⟩=some (.int .i64 x):=hb45.cell rfl;have e1:w5.cell? ⟨w.heap.size+4,1,none⟩=some (.int .i64 y):=hb45.cell rfl;have f0:w5.frozen? ⟨w.heap.size+4,0,none⟩=false:=hb45.froz 0;have f1:w5.frozen? ⟨w.heap.size+4,1,none⟩=false:=hb45.froz 1;have a0:w5.cell? ⟨w1.heap.size,0,none⟩=some (.int .i64 ci):=hHeld.2.cell rfl;have a1:w5.cell? ⟨w1.heap.size,1,none⟩=some (.int .i64 ri):=hHeld.2.cell rfl;have HNX:Hid (ShI w O (n-(i+1)) (K++[((ci,ri),ct)]) (ci,ri) d2 k4 ((w5.setCell ⟨w.heap.size+4,0,none⟩ (.int .i64 ci)).setCell ⟨w.heap.size+4,1,none⟩ (.int .i64 ri))):=by
    have hk6:Kp w5 ((w5.setCell ⟨w.heap.size+4,0,none⟩ (.int .i64 ci)).setCell ⟨w.heap.size+4,1,none⟩ (.int .i64 ri)) (fun j=>j=w.heap.size+4):=((Kp.refl w5 (fun j=>j=w.heap.size+4)).setCell ⟨w.heap.size+4,0,none⟩ _ (.inr rfl)).setCell ⟨w.heap.size+4,1,none⟩ _ (.inr rfl);have hrl:K.length<4096:=(by unfold rOk at hB;simp only[Bool.and_eq_true,decide_eq_true_eq] at hB;exact hB.2);have hwk:Kp w w5 Nul:=k4W.trans' hk45 (fun j hj e=>by omega);refine⟨?_,(h4.kp hk45 (fun e=>by omega)).kp hk6 (fun e=>by omega),(hG5 hB).far hk6 (fun j hj e=>by have e':j=w.heap.size+4:=e;omega),HI.out.up.add HLA.out ct,by rw[List.length_append];simp only[List.length_cons,List.length_nil];omega,(HI.out.b0.kp k5 (fun e=>by omega)).kp hk6 (fun e=>by omega),(HI.out.b1.kp k5 (fun e=>by omega)).kp hk6 (fun e=>by omega),(hb45.set 0 _).set 1 _,hwk.trans' hk6 (fun j hj e=>by have e':j=w.heap.size+4:=e;omega),by have:=k5.size;have:=hk6.size;have:=HI.out.sz;omega⟩
    rw[HMm.out,HQ2.out,hq,Option.bind_some];simp only;rw[hB,if_pos rfl]
   have HHI:Hid (i<n/\n<65536):=⟨HLT.out,HN.out⟩;have hwr:IntKind.u64.wrap ((i:Int)+1)=(i:Int)+1:=(by have:=HHI.out;rw[IntKind.wrap_u64];omega);clear hHeld hS4 hB k5 her hne1 hk45 hb45 hG5 km5 hz4 hgr4 k4W k4w hrd hq h4 own4 kp4 HPut HCt HPl HOrd HOUT HI HQ2 HLA HkD HkDw HrD HsD Hk2 Hb2 Hr2 Hs2 HsA HM0 HM1 hmf;go_wp2_with fail;go_roundw
   case rel=>exact⟨i+1,_,_,_,_,by have:=HHI.out;omega,by go_num,HNX.out⟩
   case measure=>simp only[RowKit.intOf];have:=HHI.out;omega
  ·have hie:i=n:=(by omega);subst hie;rw[Nat.sub_self] at hI;have hO:O=some (K,d):=hI.ans.symm;have HO3:Hid (o=if d=[] then some K else none):=(by show _=_;rw[HO2.out,hO];rfl);have HI:Hid (ShI w O 0 K la d k wr):=hI;have cR:wr.cell? ⟨w.heap.size+1+1,0,none⟩=some (.string ⟨d.toArray⟩):=hI.rd.cell rfl;have c0:wr.cell? ⟨w.heap.size,0,none⟩=some (.pointer (some ⟨w.heap.size+3,0,none⟩)):=hI.b0.cell rfl;have f0:wr.frozen? ⟨w.heap.size,0,none⟩=false:=hI.b0.froz 0;have c1:wr.cell? ⟨w.heap.size+1,0,none⟩=some (.int .i64 0):=hI.b1.cell rfl;have f1:wr.frozen? ⟨w.heap.size+1,0,none⟩=false:=hI.b1.froz 0;clear hI hO hi hlt HO2;go_wp2_with fail;clear cR;cases hd:d.isEmpty with
   | false=>
    have HFN:Hid (o=none):=(by show _=_;rw[HO3.out,if_neg (fun e=>by rw[e] at hd;cases hd)]);refine(HM0.out _ _).mono ?_;rintro e w6 ⟨rfl,hz⟩;replace hz:=hz.symm;subst hz;go_wp2_with fail;exact j0J HFN.out HI.out.kp HI.out.b0 HI.out.b1 _ _ _
   | true=>
    have HFN:Hid (o=some K):=(by show _=_;rw[HO3.out,if_pos (List.isEmpty_iff.1 hd)]);refine(HM1.out _ _).mono ?_;rintro e w6 ⟨rfl,hz⟩;replace hz:=hz.symm;subst hz;have hkX:Kp wr ((wr.setCell ⟨w.heap.size,0,none⟩ (.pointer (some ⟨w.heap.size+3,0,none⟩))).setCell ⟨w.heap.size+1,0,none⟩ (.int .i64 0)) (fun j=>j=w.heap.size∨j=w.heap.size+1):=((Kp.refl wr (fun j=>j=w.heap.size∨j=w.heap.size+1)).setCell ⟨w.heap.size,0,none⟩ _ (.inr (.inl rfl))).setCell ⟨w.heap.size+1,0,none⟩ _ (.inr (.inr rfl));have HX:Hid (Kp w ((wr.setCell ⟨w.heap.size,0,none⟩ (.pointer (some ⟨w.heap.size+3,0,none⟩))).setCell ⟨w.heap.size+1,0,none⟩ (.int .i64 0)) Nul/\GI w.heap.size ((wr.setCell ⟨w.heap.size,0,none⟩ (.pointer (some ⟨w.heap.size+3,0,none⟩))).setCell ⟨w.heap.size+1,0,none⟩ (.int .i64 0)) (w.heap.size+3) K.reverse/\Blk ((wr.setCell ⟨w.heap.size,0,none⟩ (.pointer (some ⟨w.heap.size+3,0,none⟩))).setCell ⟨w.heap.size+1,0,none⟩ (.int .i64 0)) w.heap.size [.pointer (some ⟨w.heap.size+3,0,none⟩)] 23/\Blk ((wr.setCell ⟨w.heap.size,0,none⟩ (.pointer (some ⟨w.heap.size+3,0,none⟩))).setCell ⟨w.heap.size+1,0,none⟩ (.int .i64 0)) (w.heap.size+1) [.int .i64 0] 27):=by
     refine⟨HI.out.kp.trans' hkX (fun j hj e=>by omega),(j9.far HI.out.gr hkX (fun j hj e=>by omega)).mono (fun j hj=>by omega),?_,?_⟩
     ·exact(HI.out.b0.set 0 _).other _ _ (by simp)
     ·exact(HI.out.b1.other _ _ (by simp)).set 0 _
    clear hkX;go_wp2_with fail;exact jDy HFN.out HX.out.1 HX.out.2.1 HX.out.2.2.1 HX.out.2.2.2 _ _ _
inductive UpP (w:World) (er:Nat):Option (List Cc)->Ending->World->Prop
 | ok {K:List Cc} {g:Nat} {w':World} (gi:GI w.heap.size w' g K.reverse) (kp:Kp w w' Nul):UpP w er (some K) (.returned (.tuple #[.pointer (some ⟨g,0,none⟩),.int .i64 er])) w'
 | no {w':World} (kp:Kp w w' Nul):UpP w er none (.returned (.tuple #[.pointer none,.int .i64 er])) w'
theorem UpP.fin {w w':World}{er:Nat}{o:Option (List Cc)}(h:o=none)(kp:Kp w w' Nul):UpP w er o (.returned (.tuple #[.pointer none,.int .i64 er])) w':=by rw[h];exact .no kp
theorem j6U (l:List UInt8)(w:World)(hs:Sh w)(U:VS w):
 Calls Tryz.prog 40 #[.string ⟨l.toArray⟩] w fun e w'=>UpP w (upR l) (upO l) e w':=by
 have hsz:((ByteArray.mk l.toArray).size:Int)=(l.length:Int):=by show ((l.toArray.size:Nat):Int)=_;rw[List.size_toArray]
 obtain⟨o,ho⟩:∃o,upO l=o:=⟨_,rfl⟩;obtain⟨er,her⟩:∃er,upR l=er:=⟨_,rfl⟩;rw[ho,her];have HE:Hid (upE l=if 4194304<l.length then 2 else if l.take 4=D5 then if l.length<10 then 3 else if unle (laB l)=crcS (ahB l) then 0 else 51 else 50):=by show _=_;rfl
 have HNO:Hid (∀x:Nat,upE l=x->x≠0->o=none/\er=x):=fun x e hx=>by
  refine⟨?_,?_⟩
  ·rw[<- ho];unfold upO;rw[if_neg (by rw[e];exact hx)]
  ·rw[<- her];unfold upR;rw[if_neg (by rw[e];exact hx)];exact e
 have HYES:Hid (upE l=0->o=L9 ((ahB l).drop 4)/\er=if o.isSome=true then 0 else 3):=fun e=>by
  have e1:o=L9 ((ahB l).drop 4):=by rw[<- ho];unfold upO;rw[if_pos e]
  refine⟨e1,?_⟩;rw[<- her];unfold upR;rw[if_pos e,ho]
 obtain⟨B,hB⟩:∃B,decide (l.take 4=D5)=B:=⟨_,rfl⟩;have HB:Hid (decide (l.take 4=D5)=B):=hB;have HP:Hid (∀w,Calls Tryz.prog 80 #[.string ⟨l.toArray⟩,.string ⟨#[81,68,82,49]⟩] w fun e w'=>e=.returned (.bool B)/\w'=w):=fun w=>by
  have:=jBu l w;rw[hB] at this;exact this
 clear ho her hB;by_cases h1:4194304<l.length
 ·have h1':(4194304:Int)<(l.length:Int):=by omega
  obtain⟨e1,e2⟩:=HNO.out 2 (by rw[HE.out,if_pos h1]) (by decide);subst e2;have HF:Hid (UpP w 2 o (.returned (.tuple #[.pointer none,.int .i64 2])) w):=UpP.fin e1 (Kp.refl _ _);clear e1 h1 HYES HNO HE;go_enter Tryz.func40,Tryz.ntmps40;go_wp2_with fail;refine bodyPost_ret (results_tmp2 rfl _ _ _) rfl ?_;exact HF.out
 have h1':¬(4194304:Int)<(l.length:Int):=by omega
 cases hb:B with
 | false=>
  subst hb;obtain⟨e1,e2⟩:=HNO.out 50 (by rw[HE.out,if_neg h1,if_neg (of_decide_eq_false HB.out)]) (by decide);subst e2;have HF:Hid (UpP w 50 o (.returned (.tuple #[.pointer none,.int .i64 50])) w):=UpP.fin e1 (Kp.refl _ _);clear e1 h1 HYES HNO HE;go_enter Tryz.func40,Tryz.ntmps40;go_wp2_with fail;refine(HP.out _).mono ?_;rintro e w1 ⟨rfl,hz⟩;replace hz:=hz.symm;subst hz;go_wp2_with fail;refine bodyPost_ret (results_tmp2 rfl _ _ _) rfl ?_;exact HF.out
 | true=>
 subst hb;by_cases h2:l.length<10
 ·have h2':(l.length:Int)<10:=by omega
  obtain⟨e1,e2⟩:=HNO.out 3 (by rw[HE.out,if_neg h1,if_pos (of_decide_eq_true HB.out),if_pos h2]) (by decide);subst e2;have HF:Hid (UpP w 3 o (.returned (.tuple #[.pointer none,.int .i64 3])) w):=UpP.fin e1 (Kp.refl _ _);clear e1 h1 h2 HYES HNO HE;go_enter Tryz.func40,Tryz.ntmps40;go_wp2_with fail;refine(HP.out _).mono ?_;rintro e w1 ⟨rfl,hz⟩;replace hz:=hz.symm;subst hz;go_wp2_with fail;refine bodyPost_ret (results_tmp2 rfl _ _ _) rfl ?_;exact HF.out
 have h2':¬(l.length:Int)<10:=by omega
 obtain⟨n,hn⟩:∃n,l.length=n+4:=⟨l.length-4,by omega⟩;have hE1:(ByteArray.mk l.toArray).extract 0 n=⟨(ahB l).toArray⟩:=by rw[j01];unfold ahB;rw[hn,Nat.add_sub_cancel]
 have hE2:(ByteArray.mk l.toArray).extract n l.length=⟨(laB l).toArray⟩:=by rw[j0Q];unfold laB;rw[hn,Nat.add_sub_cancel]
 have hla:(laB l).length=4:=j2L (by omega);have hah:(ahB l).length=n:=by unfold ahB;rw[List.length_take];omega
 have hE3:(ByteArray.mk (ahB l).toArray).extract 4 n=⟨((ahB l).drop 4).toArray⟩:=by have:=j0Q (ahB l) 4;rw[hah] at this;exact this
 obtain⟨W1,hW1⟩:∃W1,(w.alloc (.cells #[.string ⟨(laB l).toArray⟩,.int .i64 0] 114)).drew=W1:=⟨_,rfl⟩;have k1:Kp w W1 Nul:=by rw[<- hW1];exact((Kp.refl w Nul).alloc _).drew
 have b1:Rr W1 w.heap.size (laB l) 0:=by rw[<- hW1];exact Blk.new w _ _
 have hrn:rNum 4 (laB l)=some (unle (laB l),[]):=by unfold rNum;rw[if_pos (by omega),List.take_of_length_le (by omega),List.drop_eq_nil_of_le (by omega)]
 have HN:Hid (Calls Tryz.prog 52 #[.pointer (some ⟨w.heap.size,0,none⟩),.int .i64 4] W1 fun e w'=>e=.returned (.int .u64 (unle (laB l):Nat))/\Kp w w' Nul):=(j0H w.heap.size (laB l) 0 4 W1 b1 (by decide)).mono fun e w' h=>by
  rw[hrn] at h;cases h with
  | ok _ kp=>exact⟨rfl,k1.trans' kp (fun i hi e=>by have e':i=w.heap.size:=e;omega)⟩
 have HSum:Hid (∀wq,Calls Tryz.prog 33 #[.string ⟨(ahB l).toArray⟩] wq fun e w'=>e=.returned (.int .u32 (crcS (ahB l):Nat))/\Kp wq w' Nul):=fun wq=>by
  have:=j6M ⟨(ahB l).toArray⟩ wq (by show (ahB l).toArray.size<=_;rw[List.size_toArray];omega);exact this
 have HSh:Hid (∀wq,Kp w wq Nul->Calls Tryz.prog 81 #[.string ⟨((ahB l).drop 4).toArray⟩] wq fun e w'=>ShP wq (L9 ((ahB l).drop 4)) e w'):=fun wq k=>jDx _ wq (hs.kp k (fun x=>x)) (U.kp k)
 have HW1:Hid ((w.alloc (.cells #[.string ⟨(laB l).toArray⟩,.int .i64 0] 114)).drew=W1):=hW1;have hcr:=U4 (ahB l);have hcv:=j0o (crcS (ahB l)) hcr;have HE2:Hid (upE l=if unle (laB l)=crcS (ahB l) then 0 else 51):=by show _=_;rw[HE.out,if_neg h1,if_pos (of_decide_eq_true HB.out),if_neg h2]
 have hw1:wrap64 ((l.length:Int)-4)=(n:Int):=by unfold wrap64;omega
 have hw2:IntKind.i64.wrap ((l.length:Int)-4)=(n:Int):=by rw[IntKind.wrap_i64];omega
 have hn1:¬(n:Int)<0:=by omega
 have hn2:(n:Int)<=(l.length:Int):=by omega
 have hn3:(4:Int)<=(n:Int):=by omega
 have HAL:Hid (((ByteArray.mk (ahB l).toArray).size:Int)=(n:Int)):=by show ((ahB l).toArray.size:Int)=_;rw[List.size_toArray,hah]
 clear hn hcr hrn hla hah hW1 k1 b1 hs U h1 h2 HE HB;go_enter Tryz.func40,Tryz.ntmps40;go_wp2_with fail;refine(HP.out _).mono ?_;rintro e w1 ⟨rfl,hz⟩;replace hz:=hz.symm;subst hz;go_wp2_with fail;go_region_held3 (fun _:World=>True) (trivial) (fail)
 rw[HW1.out];clear hE1 hE2 hw1 hw2 hsz HW1 HP;generalize unle (laB l)=u at *;generalize crcS (ahB l)=v at *;have hszA:((ByteArray.mk (ahB l).toArray).size:Int)=(n:Int):=HAL.out;clear hE3;go_wp2_with fail;refine HN.out.mono ?_;rintro e w2 ⟨rfl,k2⟩;have HK2:Hid (Kp w w2 Nul):=k2;clear k2 HN;go_wp2_with fail;refine(HSum.out _).mono ?_;rintro e w3 ⟨rfl,k3⟩;have HK3:Hid (Kp w w3 Nul):=HK2.out.trans k3;clear k3 HSum HK2;by_cases he:u=v
 ·subst he;have hbe:((u:Int)!=(u:Int))=false:=by simp
  obtain⟨g1,g2⟩:=HYES.out (by rw[HE2.out,if_pos rfl]);have HFIN:Hid (∀e' w',ShP w3 (L9 ((ahB l).drop 4)) e' w'->UpP w er o e' w'):=fun e' w' h=>by
   rw[<- g1] at h;cases h with
   | ok gi kp=>
    have:er=0:=(by rw[g2];rfl);subst this;exact .ok (j9.mono gi (fun i hi=>Nat.le_trans HK3.out.size hi)) (HK3.out.trans kp)
   | no kp=>
    have:er=3:=(by rw[g2];rfl);subst this;exact .no (HK3.out.trans kp)
  clear g1 g2 HYES HNO HE2;go_wp2_with fail;rw[j0Q];refine(HSh.out w3 HK3.out).mono ?_;intro e w4 h;have HF:Hid (UpP w er o e w4):=HFIN.out e w4 h;cases hq:L9 ((ahB l).drop 4) with
  | none=>
   rw[hq] at h;cases h with
   | no kp=>
    clear kp hq HFIN HSh;go_wp2_with fail;refine bodyPost_ret (results_tmp2 rfl _ _ _) rfl ?_;exact HF.out
  | some K=>
   rw[hq] at h;cases h with
   | ok gi kp=>
    clear kp gi hq HFIN HSh;go_wp2_with fail;refine bodyPost_ret (results_tmp2 rfl _ _ _) rfl ?_;exact HF.out
 ·have hbe:((u:Int)!=(v:Int))=true:=by simp;omega
  obtain⟨g1,g2⟩:=HNO.out 51 (by rw[HE2.out,if_neg he]) (by decide);subst g2;have HF:Hid (UpP w 51 o (.returned (.tuple #[.pointer none,.int .i64 51])) w3):=UpP.fin g1 HK3.out;clear g1 he HYES HNO HE2;go_wp2_with fail;refine bodyPost_ret (results_tmp2 rfl _ _ _) rfl ?_;exact HF.out
end
section
open Go.RowKit Go.Shelf
theorem j60 (P:Program)(g o:Nat)(t:TypeId)(fz:Nat×Nat):∀(vs:List Value) (i:Nat) (cur:Array Value) (w:World),w.heap[g]? = some (.cells cur t fz)->cur.size<=fz.1->o+i+vs.length<=cur.size->(∀v∈vs,v.oneCell'=true) ->
 (storeCells ⟨g,o,none⟩ vs i).run P w=.ok () (w.setRow g (cur.toList.take (o+i)++vs++cur.toList.drop (o+i+vs.length)).toArray)
 | [],i,cur,w,hg,_,_,_=>by
  simp only[storeCells,List.append_nil,List.length_nil,Nat.add_zero,List.take_append_drop,Array.toArray_toList];rw[setRow_self w g cur t fz hg]
  rfl
 | v::rest,i,cur,w,hg,hfz,hl,h1=>by
  have hi:o+i<cur.size:=by simp at hl;omega
  have hadd:(⟨g,o,none⟩:Addr).add i=⟨g,o+i,none⟩:=by unfold Addr.add;split <;> simp_all
  have hcell:w.cell? ⟨g,o+i,none⟩=some cur[o+i]:=by simp[World.cell?,hg,hi]
  have hfro:w.frozen? ⟨g,o+i,none⟩=false:=by
   obtain⟨lo,hi'⟩:=fz;simp only[World.frozen?,hg,Bool.and_eq_false_iff,decide_eq_false_iff_not];left
   simp only at hfz;omega
  have hst:(store ((⟨g,o,none⟩:Addr).add i) v).run P w=.ok () (w.setRow g (cur.setIfInBounds (o+i) v)):=by
   rw[hadd,run_store P w _ v _ (h1 v (by simp)),hcell];simp[hfro,setCell_eq_setRow w g (o+i) cur t fz v hg]
  have ih:=j60 P g o t fz rest (i+1) (cur.setIfInBounds (o+i) v) (w.setRow g (cur.setIfInBounds (o+i) v)) (setRow_heap w g cur _ t _ hg) (by simpa using hfz) (by simp at hl ⊢;omega) (fun x hx=>h1 x (by simp[hx]));simp only[storeCells,Sem.run_bind,hst,Result.andThen_ok,ih,setRow_setRow]
  congr 3
  have e:=list_seg_step cur.toList (o+i) v rest (by simp at hl ⊢;omega)
  simpa [Array.toList_setIfInBounds,Nat.add_assoc] using e
theorem jDN (P:Program)(w:World)(t ty e:TypeId)(i:TypeInfo)(ht:P.underlying t=some (.slice e))(hi:P.info? e=some i)(hz:i.zero=some (.int .u8 0))(hs1:i.size=1)(hby:i.bytes=1)
 (g n cap:Nat) (cur:Array Value) (fz:Nat×Nat) (hg:w.heap[g]? = some (.cells cur e fz)) (hfz:cur.size<=fz.1) (hcs:cur.size=cap) (l:List UInt8) (hl:l.length=n) (htake:cur.toList.take n=Lib.byteCells l)
 (a:Addr) (m c:Nat) (k:List UInt8) (hk:k.length=m) (hnews:∀j u,(Lib.byteCells k)[j]? = some u->w.cell? (a.add j)=some u) (h63:n+m<=140737488355328) :
 ∃g' c' w',(Builtin.append_ #[t,t] ty #[.slice (some ⟨g,0,none⟩) n cap,.slice (some a) m c]).run P w=.ok (.slice (some ⟨g',0,none⟩) (n+m) c') w'/\(∀j x,(l++k)[j]? = some x->w'.cell? ⟨g',j,none⟩=some (.int .u8 (UInt8.toNat x)))/\Kp w w' (fun b=>b=g):=by
 have hkl:(Lib.byteCells k).length=m*i.size:=by rw[hs1,Lib.byteCells_length,hk,Nat.mul_one]
 have h1:∀u∈Lib.byteCells k,u.oneCell'=true:=fun u hu=>by
  unfold Lib.byteCells at hu;obtain⟨x,_,rfl⟩:=List.mem_map.1 hu
  rfl
 have hcell:∀j x,(l++k)[j]? = some x->(Lib.byteCells l++Lib.byteCells k)[j]? = some (Value.int .u8 (UInt8.toNat x)):=fun j x hx=>by
  have e:Lib.byteCells l++Lib.byteCells k=Lib.byteCells (l++k):=by unfold Lib.byteCells;rw[List.map_append]
  rw[e];unfold Lib.byteCells;rw[List.getElem?_map,hx]
  rfl
 by_cases hroom:n+m<=cap
 ·have hf:=run_firstCells_some (P:=P) w i.size m a m c (Lib.byteCells k) hkl hnews;have hst:=j60 P g (n*i.size) e fz (Lib.byteCells k) 0 cur w hg hfz (by rw[hs1,Lib.byteCells_length,hk];omega) h1;simp only[Nat.add_zero] at hst;refine⟨g,cap,w.setRow g (cur.toList.take (n*i.size)++Lib.byteCells k++cur.toList.drop (n*i.size+(Lib.byteCells k).length)).toArray,?_,fun j x hx=>?_,?_⟩
  ·simp[Builtin.append_,run_underlying ht,sizeOf,typeInfo,hi,Builtin.lenOf,hroom,hf,Addr.add_lit,hst]
  ·rw[cell_of_row _ g j _ e fz (setRow_heap w g cur _ e _ hg)];rw[hs1,Nat.mul_one,htake];have hj:=(List.getElem?_eq_some_iff.1 (hcell j x hx)).1;simp only[List.getElem?_toArray];rw[List.getElem?_append_left hj];exact hcell j x hx
  ·refine⟨rfl,rfl,rfl,by simp,fun b hb hs=>setRow_other w g b _ (fun e=>hs e)⟩
 ·have holds:∀j u,(Lib.byteCells l)[j]? = some u->w.cell? ((⟨g,0,none⟩:Addr).add j)=some u:=fun j u hu=>by
   have hadd:(⟨g,0,none⟩:Addr).add j=⟨g,j,none⟩:=(by unfold Addr.add;split <;> simp_all);rw[hadd,cell_of_row w g j cur e fz hg];rw[<- htake,List.getElem?_take] at hu;split at hu
   ·simpa using hu
   ·cases hu
  have hr:=run_append_grow (P:=P) w t ty e i (.int .u8 0) ht hi hz ⟨g,0,none⟩ n cap (Lib.byteCells l) (by rw[Lib.byteCells_length,hl,hs1,Nat.mul_one]) holds a m c (Lib.byteCells k) hkl hnews (by omega) (by omega) (growslice_fits (by omega) (by rw[hby];omega));refine⟨_,_,_,hr,fun j x hx=>?_,((Kp.refl w _).drew).alloc _⟩;have h2:∀X:World,∀C:Array Value,X.heap[w.heap.size]? = some (.cells C e)->X.cell? ⟨w.heap.size,j,none⟩=C[j]?:=fun X C hX=>Lib.cell_of_heap hX j
  rw[h2 _ _ (World.alloc_heap_new w.drew _)];have hj:=(List.getElem?_eq_some_iff.1 (hcell j x hx)).1;rw[Array.getElem?_append_left (by simpa using hj)];have:=hcell j x hx
  simpa using this
theorem jFI {P:Program}{w:World}{ops:Array Oper}{rest:List Oper}{o:Oper}{a:Act}{Q:Exit->Act->World->Prop}(hgd:o.guard=none)(s x:Operand)(t:TypeId)(ho:o.op=Op.call { callee:=Callee.builtin Builtin.append,args:=#[s,x],argTypes:=#[t,t] })
 (v1 v2 v':Value) (w':World) (hs:a.eval s=v1) (hx:a.eval x=v2) (hr:(Builtin.append_ #[t,t] o.type #[v1,v2]).run P w=.ok v' w') (h:wpList P ops Q rest (a.put o.dst v') w'):wpList P ops Q (o::rest) a w:=by
 refine wpList_plain hgd fun K hK=>?_
 unfold Oper.wp execOp;simp only[ho,resolve,invoke,builtin,Sem.run_bind,Sem.run_pure,Result.andThen_ok,List.map_toArray,List.map_cons,List.map_nil,hs,hx,hr];exact hK _ _ h
def j1f (l:List UInt8):List UInt8:=(D5++l)++le 4 (crcS (D5++l))
theorem j3Z (l:List UInt8):(ByteArray.mk #[81,68,82,49])++(ByteArray.mk l.toArray)=⟨(D5++l).toArray⟩:=by
 apply ByteArray.ext
 rw[ByteArray.data_append];simp[D5]
theorem j1e (n:Nat)(w:World):(convert 86 5 (.int .u32 n)).run Tryz.prog w=.ok (.int .u8 (UInt8.ofNat n).toNat) w:=by
 have e:((UInt8.ofNat n).toNat:Int)=(n:Int)%256:=by rw[UInt8.toNat_ofNat'];omega
 rw[e];simp[go_sem,convert,run_underlying Tryz.underlying86,run_underlying Tryz.underlying5,IntKind.wrap,IntKind.signed]
theorem jDq (l:List UInt8)(w:World)(hl:l.length+8<=140737488355328):
 Calls Tryz.prog 12 #[.string ⟨l.toArray⟩] w fun e w'=>e=.returned (.string ⟨(j1f l).toArray⟩)/\Kp w w' Nul:=by
 obtain⟨L,hL⟩:∃L,D5++l=L:=⟨_,rfl⟩;have hLl:L.length=l.length+4:=by rw[<- hL,List.length_append];have:D5.length=4:=rfl;omega
 have hcat:(ByteArray.mk #[81,68,82,49])++(ByteArray.mk l.toArray)=⟨L.toArray⟩:=by rw[<- hL];exact j3Z l
 have hq4:4+l.length<=9223372036854775807:=by omega
 obtain⟨n,hn⟩:∃n,L.length=n:=⟨_,rfl⟩;have hs:(ByteArray.mk L.toArray).size=n:=by show L.toArray.size=_;rw[List.size_toArray,hn]
 have hcv:=run_bytes_of_string (P:=Tryz.prog) w 9 70 5 ⟨L.toArray⟩ Tryz.underlying9 Tryz.underlying70 Tryz.underlying5;rw[hs] at hcv;obtain⟨cap,hcap⟩:∃cap,grownCap w n 0 5=cap:=⟨_,rfl⟩;have hge:=grownCap_ge w n 0 5;rw[hcap] at hcv hge;obtain⟨row,hrow⟩:∃row,bytesRow ⟨L.toArray⟩ cap=row:=⟨_,rfl⟩;rw[hrow] at hcv;have hrs:row.size=cap:=by
  rw[<- hrow];unfold bytesRow;rw[Array.size_append,Array.size_map,Array.size_replicate,hs];show L.toArray.size+_=_;rw[List.size_toArray,hn];omega
 have hrt:row.toList.take n=Lib.byteCells L:=by
  rw[<- hrow];unfold bytesRow Lib.byteCells;rw[Array.toList_append,List.take_append_of_le_length (by simp;omega)];simp only[Array.toList_map,<- hn];exact List.take_of_length_le (by simp)
 obtain⟨W1,hW1⟩:∃W1,w.drew.alloc (.cells row 5 (row.size,row.size+1))=W1:=⟨_,rfl⟩;rw[hW1] at hcv;have k1:Kp w W1 Nul:=by rw[<- hW1];exact((Kp.refl w Nul).drew).alloc _
 have hb1:W1.heap[w.heap.size]? = some (.cells row 5 (row.size,row.size+1)):=by rw[<- hW1];exact World.alloc_heap_new w.drew _
 have HSum:Hid (Calls Tryz.prog 38 #[.slice (some ⟨w.heap.size,0,none⟩) n cap] W1 fun e w'=>e=.returned (.int .u32 (crcS L:Nat))/\w'=W1):=j2x w.heap.size 0 n cap L hn (by omega) W1 (fun j x hx=>by
  rw[Nat.zero_add];have h2:W1.cell? ⟨w.heap.size,j,none⟩=row[j]?:=cell_of_row W1 w.heap.size j row 5 (row.size,row.size+1) hb1;rw[h2];have h3:(Lib.byteCells L)[j]? = some (Value.int .u8 (UInt8.toNat x)):=by unfold Lib.byteCells;rw[List.getElem?_map,hx];rfl
  rw[<- hrt,List.getElem?_take] at h3;split at h3
  ·simpa using h3
  ·cases h3)
 obtain⟨s,hsv⟩:∃s,crcS L=s:=⟨_,rfl⟩;have hslt:s<4294967296:=by rw[<- hsv];exact U4 L
 rw[hsv] at HSum;obtain⟨s1,hs1⟩:∃s1,s/256=s1:=⟨_,rfl⟩;obtain⟨s2,hs2⟩:∃s2,s/65536=s2:=⟨_,rfl⟩;obtain⟨s3,hs3⟩:∃s3,s/16777216=s3:=⟨_,rfl⟩;have g1:(s:Int)/256=(s1:Int):=by omega
 have g2:(s:Int)/65536=(s2:Int):=by omega
 have g3:(s:Int)/16777216=(s3:Int):=by omega
 have hle:le 4 s=[UInt8.ofNat s,UInt8.ofNat s1,UInt8.ofNat s2,UInt8.ofNat s3]:=by
  rw[le,le,le,le,le,Nat.div_div_eq_div_mul,Nat.div_div_eq_div_mul,hs1,hs2,hs3]
 have v0:=j1e s;have v1:=j1e s1;have v2:=j1e s2;have v3:=j1e s3;obtain⟨i8,hi8,hz8,hsz8,hby8⟩:=U6;obtain⟨W2,hW2⟩:∃W2,W1.alloc (.cells #[.int .u8 (UInt8.ofNat s).toNat,.int .u8 (UInt8.ofNat s1).toNat,.int .u8 (UInt8.ofNat s2).toNat,.int .u8 (UInt8.ofNat s3).toNat] 5)=W2:=⟨_,rfl⟩;have k2:Kp W1 W2 Nul:=by rw[<- hW2];exact(Kp.refl _ _).alloc _
 have b2:Blk W2 W1.heap.size [.int .u8 (UInt8.ofNat s).toNat,.int .u8 (UInt8.ofNat s1).toNat,.int .u8 (UInt8.ofNat s2).toNat,.int .u8 (UInt8.ofNat s3).toNat] 5:=by rw[<- hW2];exact Blk.new W1 _ _
 have hb2:W2.heap[w.heap.size]? = some (.cells row 5 (row.size,row.size+1)):=(k2.block _ (Array.getElem?_eq_some_iff.1 hb1).1 (fun x=>x)).trans hb1;obtain⟨g',c',W3,hap,hcl,k3⟩:=jDN Tryz.prog W2 70 70 5 i8 Tryz.underlying70 hi8 hz8 hsz8 hby8 w.heap.size n cap row (row.size,row.size+1) hb2 (Nat.le_refl _) hrs L hn hrt ⟨W1.heap.size,0,none⟩ 4 4 [UInt8.ofNat s,UInt8.ofNat s1,UInt8.ofNat s2,UInt8.ofNat s3] rfl (fun j u hu=>by
  have hadd:(⟨W1.heap.size,0,none⟩:Addr).add j=⟨W1.heap.size,j,none⟩:=by unfold Addr.add;split <;> simp_all
  rw[hadd];exact b2.cell hu) (by omega)
 have hSB:j1f l=L++[UInt8.ofNat s,UInt8.ofNat s1,UInt8.ofNat s2,UInt8.ofNat s3]:=by unfold j1f;rw[hL,hsv,hle]
 have hbk:=run_convert_bytes_back (P:=Tryz.prog) W3 70 9 5 ⟨g',0,none⟩ c' (L++[UInt8.ofNat s,UInt8.ofNat s1,UInt8.ofNat s2,UInt8.ofNat s3]) Tryz.underlying70 Tryz.underlying5 Tryz.underlying9 (fun j hj=>by
  have hadd:(⟨g',0,none⟩:Addr).add j=⟨g',j,none⟩:=by unfold Addr.add;split <;> simp_all
  rw[hadd];exact hcl j _ (List.getElem?_eq_getElem hj))
 rw[show (L++[UInt8.ofNat s,UInt8.ofNat s1,UInt8.ofNat s2,UInt8.ofNat s3]).length=n+4 from by rw[List.length_append,hn];rfl,<- hSB] at hbk;have HK3:Hid (Kp w W3 Nul):=(k1.trans k2).trans' k3 (fun j hj e=>by have e':j=w.heap.size:=e;omega);have q:∀x:Nat,((UInt8.ofNat x).toNat:Int)=(x:Int)%256:=fun x=>by rw[UInt8.toNat_ofNat'];omega
 rw[q,q,q,q] at hW2;have HAP:Hid ((Builtin.append_ #[70,70] 70 #[.slice (some ⟨w.heap.size,0,none⟩) n cap,.slice (some ⟨W1.heap.size,0,none⟩) 4 4]).run Tryz.prog (W1.alloc (.cells #[.int .u8 ((s:Int)%256),.int .u8 ((s1:Int)%256),.int .u8 ((s2:Int)%256),.int .u8 ((s3:Int)%256)] 5))=.ok (.slice (some ⟨g',0,none⟩) (n+4) c') W3):=by show _=_;rw[hW2];exact hap
 clear hap q;clear hcl hSB hle k3 b2 hb2 hb1 k1 k2 hW1 hW2 hrt hrs hrow hge hcap hs hn hLl hL hsv hslt hs1 hs2 hs3 hl;go_enter Tryz.func12,Tryz.ntmps12;go_wp2_with fail;clear hcv hcat hq4;refine HSum.out.mono ?_;rintro e w2 ⟨rfl,hz⟩;replace hz:=hz.symm;subst hz;go_wp2_with (first|(refine jFI rfl (.tmp 10) (.tmp 22) 70 rfl (.slice (some ⟨w.heap.size,0,none⟩) n cap) (.slice (some ⟨W1.heap.size,0,none⟩) 4 4) (.slice (some ⟨g',0,none⟩) (n+4) c') W3 rfl rfl (by with_reducible exact HAP.out) ?_)|fail);go_ret;exact⟨rfl,HK3.out⟩
end
end Go.Proofs.YtnceajanlnnfoaaGreatDoor
