/-Packed, plain: a content that may be in a cell may stand in a file; a . -/
import Derived.Test.YtnceajanlnnfoaaGreatDoorQrPki
import Derived.Test.YtnceajanlnnfoaaGreatDoorQrIg
import Derived.Laws.IdiomStrings
import Derived.Recover
set_option maxRecDepth 40000
set_option maxHeartbeats 16000000
namespace Go.Proofs.YtnceajanlnnfoaaGreatDoor
section
open Go.RowKit
theorem j00 {s t:ByteArray}(h:s.toList=t.toList):s=t:=by
 have h1:s.data.toList=t.data.toList:=by
  have e1:s.toList=s.data.toList:=ByteArray.toList_eq s;have e2:t.toList=t.data.toList:=ByteArray.toList_eq t;rw[<- e1,<- e2,h]
 cases s
 cases t
 simp only[ByteArray.mk.injEq];exact Array.ext' h1
theorem j9k {h g:Hd}(e:j7 h g=true)(hx:one h.x=h.x)(gx:one g.x=g.x):h=g:=by
 obtain⟨e1,e2,e3,e4,e5,e6,e7,e8⟩:=j4Y e;simp only[Bool.and_eq_true,beq_iff_eq] at e7 e8;obtain⟨⟨⟨a1,a2⟩,a3⟩,a4⟩:=e7;obtain⟨⟨⟨b1,b2⟩,b3⟩,b4⟩:=e8;have e3':h.x=g.x:=by
  unfold F7 at e3;rw[decide_eq_true_eq,hx,gx] at e3;exact e3
 have e4':h.s=g.s:=j00 e4;cases h
 cases g
 simp only at e1 e2 e3' e4' e5 e6 a1 a2 a3 a4 b1 b2 b3 b4;subst e1 e2 e3' e4' e5 e6 a1 a2 a3 a4 b1 b2 b3 b4
 rfl
theorem jEy (h:Hd)(hx:one h.x=h.x):one (wmJ h).x=(wmJ h).x:=by
 unfold wmJ;repeat' split
 all_goals first|exact hx|exact j2h
theorem j8r:∀ {h:Hd} {ts:List Nd},cpy (.mk h ts)=.mk h ts->one h.x=h.x/\cpyL ts=ts:=by
 intro h ts e;rw[cpy] at e;injection e with e1 e2;exact⟨congrArg Hd.x e1,e2⟩
theorem jAG {s:ByteArray}(h:(known s).2.2=true):s.size<65536:=by
 have key:∀l:List ByteArray,(∀n∈l,n.size<65536)->E5 s l=true->s.size<65536:=by
  intro l hl ha;unfold E5 at ha;rw[List.any_eq_true] at ha;obtain⟨n,hn,he⟩:=ha;have e:s=n:=j00 (by simpa using he);rw[e];exact hl n hn
 unfold known at h;by_cases q0:E5 s nm0=true
 ·exact key nm0 (by decide) q0
 rw[if_neg q0] at h;by_cases q1:E5 s nm1=true
 ·exact key nm1 (by decide) q1
 rw[if_neg q1] at h;by_cases q2:E5 s nm2=true
 ·exact key nm2 (by decide) q2
 rw[if_neg q2] at h;by_cases q3:E5 s nm3=true
 ·exact key nm3 (by decide) q3
 rw[if_neg q3] at h;by_cases q4:E5 s nm4=true
 ·exact key nm4 (by decide) q4
 rw[if_neg q4] at h;by_cases q5:E5 s nm5=true
 ·exact key nm5 (by decide) q5
 rw[if_neg q5] at h;by_cases q6:E5 s nm6=true
 ·exact key nm6 (by decide) q6
 rw[if_neg q6] at h;cases h
theorem jBZ {h:Hd}{n:Nat}{c:Bool}(ho:ownE h n c=0)(hx:one h.x=h.x)(hl:h.x<18446744073709551616)(hn:n<256):Kn h n:=by
 have hw:wm h n=true:=by
  cases q:wm h n with
  | true=>rfl
  | false=>unfold ownE at ho;rw[if_pos q] at ho;omega
 have hj:h=wmJ h:=by
  refine j9k ?_ hx (jEy h hx);unfold wm at hw;repeat' split at hw
  all_goals first
   | exact hw
   | (simp only[Bool.and_eq_true] at hw;exact hw.2)
   | cases hw
 have ho2:(if h.k=5 then (if vA h.c1 h.r1 h.c1 h.r1=true then (0:Int) else 20) else if h.k=6 then (if vA h.c1 h.r1 h.c2 h.r2=true then (if c=true then 0 else 31) else 20) else if h.k=9 then Q8 h.s n else 0)=0:=by
  unfold ownE at ho;rw[if_neg (by rw[hw];decide)] at ho;exact ho
 unfold wm at hw;unfold wmJ at hj;have HJ:h=wmJ h:=by unfold wmJ;exact hj
 by_cases k1:h.k=1
 ·rw[if_pos k1] at hw hj;simp only[Bool.and_eq_true,beq_iff_eq] at hw;exact⟨by omega,HJ,⟨hl,hx⟩,(by have e:=congrArg Hd.s hj;rw[e];exact s_0),(by have e:=congrArg Hd.o hj;rw[e];exact E9),(by have e:=congrArg Hd.f hj;rw[e];exact E9),(by have e:=congrArg Hd.c1 hj;rw[e];exact z7),(by have e:=congrArg Hd.r1 hj;rw[e];exact z7),(by have e:=congrArg Hd.c2 hj;rw[e];exact z7),(by have e:=congrArg Hd.r2 hj;rw[e];exact z7),(by rw[if_neg (by omega),if_neg (by omega),if_neg (by omega)];exact hw.1.2),fun q=>absurd q (by omega)⟩
 by_cases k2:h.k=2
 ·rw[if_neg k1,if_pos k2] at hw hj;simp only[Bool.and_eq_true,beq_iff_eq,decide_eq_true_eq] at hw;exact⟨by omega,HJ,⟨hl,hx⟩,(by have:=hw.1.1.1;omega),(by have e:=congrArg Hd.o hj;rw[e];exact E9),(by have e:=congrArg Hd.f hj;rw[e];exact E9),(by have e:=congrArg Hd.c1 hj;rw[e];exact z7),(by have e:=congrArg Hd.r1 hj;rw[e];exact z7),(by have e:=congrArg Hd.c2 hj;rw[e];exact z7),(by have e:=congrArg Hd.r2 hj;rw[e];exact z7),(by rw[if_neg (by omega),if_neg (by omega),if_neg (by omega)];exact hw.1.2),fun q=>absurd q (by omega)⟩
 by_cases k3:h.k=3
 ·rw[if_neg k1,if_neg k2,if_pos k3] at hw hj;simp only[Bool.and_eq_true,beq_iff_eq] at hw;exact⟨by omega,HJ,⟨hl,hx⟩,(by have e:=congrArg Hd.s hj;rw[e];exact s_0),(by have e:=congrArg Hd.o hj;rw[e];exact E9),(by have e:=congrArg Hd.f hj;rw[e];exact E9),(by have e:=congrArg Hd.c1 hj;rw[e];exact z7),(by have e:=congrArg Hd.r1 hj;rw[e];exact z7),(by have e:=congrArg Hd.c2 hj;rw[e];exact z7),(by have e:=congrArg Hd.r2 hj;rw[e];exact z7),(by rw[if_neg (by omega),if_neg (by omega),if_neg (by omega)];exact hw.1),fun q=>absurd q (by omega)⟩
 by_cases k4:h.k=4
 ·rw[if_neg k1,if_neg k2,if_neg k3,if_pos k4] at hw hj;simp only[Bool.and_eq_true,beq_iff_eq,decide_eq_true_eq] at hw;exact⟨by omega,HJ,⟨hl,hx⟩,(by have e:=congrArg Hd.s hj;rw[e];exact s_0),(by have e:=congrArg Hd.o hj;rw[e];exact E9),(by have:=hw.1.1;omega),(by have e:=congrArg Hd.c1 hj;rw[e];exact z7),(by have e:=congrArg Hd.r1 hj;rw[e];exact z7),(by have e:=congrArg Hd.c2 hj;rw[e];exact z7),(by have e:=congrArg Hd.r2 hj;rw[e];exact z7),(by rw[if_neg (by omega),if_neg (by omega),if_neg (by omega)];exact hw.1.2),fun q=>absurd q (by omega)⟩
 by_cases k5:h.k=5
 ·rw[if_neg k1,if_neg k2,if_neg k3,if_neg k4,if_pos k5] at hw hj;simp only[Bool.and_eq_true,beq_iff_eq] at hw;rw[if_pos k5] at ho2;have hv:vA h.c1 h.r1 h.c1 h.r1=true:=by
   cases q:vA h.c1 h.r1 h.c1 h.r1 with
   | true=>rfl
   | false=>rw[if_neg (by rw[q];decide)] at ho2;omega
  have hv:=(j6Z _ _ _ _).1 hv;exact⟨by omega,HJ,⟨hl,hx⟩,(by have e:=congrArg Hd.s hj;rw[e];exact s_0),(by have e:=congrArg Hd.o hj;rw[e];exact E9),(by have e:=congrArg Hd.f hj;rw[e];exact E9),(by omega),(by omega),(by have e:=congrArg Hd.c2 hj;rw[e];exact z7),(by have e:=congrArg Hd.r2 hj;rw[e];exact z7),(by rw[if_neg (by omega),if_neg (by omega),if_neg (by omega)];exact hw.1),fun q=>absurd q (by omega)⟩
 by_cases k6:h.k=6
 ·rw[if_neg k1,if_neg k2,if_neg k3,if_neg k4,if_neg k5,if_pos k6] at hw hj;simp only[Bool.and_eq_true,beq_iff_eq] at hw;rw[if_neg (by omega),if_pos k6] at ho2;have hv:vA h.c1 h.r1 h.c2 h.r2=true:=by
   cases q:vA h.c1 h.r1 h.c2 h.r2 with
   | true=>rfl
   | false=>rw[if_neg (by rw[q];decide)] at ho2;omega
  have hv:=(j6Z _ _ _ _).1 hv;exact⟨by omega,HJ,⟨hl,hx⟩,(by have e:=congrArg Hd.s hj;rw[e];exact s_0),(by have e:=congrArg Hd.o hj;rw[e];exact E9),(by have e:=congrArg Hd.f hj;rw[e];exact E9),(by omega),(by omega),(by omega),(by omega),(by rw[if_neg (by omega),if_neg (by omega),if_neg (by omega)];exact hw.1),fun q=>absurd q (by omega)⟩
 by_cases k7:h.k=7
 ·rw[if_neg k1,if_neg k2,if_neg k3,if_neg k4,if_neg k5,if_neg k6,if_pos k7] at hw hj;simp only[Bool.and_eq_true,beq_iff_eq,decide_eq_true_eq] at hw;exact⟨by omega,HJ,⟨hl,hx⟩,(by have e:=congrArg Hd.s hj;rw[e];exact s_0),(by have:=hw.1.1;omega),(by have e:=congrArg Hd.f hj;rw[e];exact E9),(by have e:=congrArg Hd.c1 hj;rw[e];exact z7),(by have e:=congrArg Hd.r1 hj;rw[e];exact z7),(by have e:=congrArg Hd.c2 hj;rw[e];exact z7),(by have e:=congrArg Hd.r2 hj;rw[e];exact z7),(by rw[if_pos k7];exact hw.1.2),fun q=>absurd q (by omega)⟩
 by_cases k8:h.k=8
 ·rw[if_neg k1,if_neg k2,if_neg k3,if_neg k4,if_neg k5,if_neg k6,if_neg k7,if_pos k8] at hw hj;simp only[Bool.and_eq_true,beq_iff_eq,decide_eq_true_eq] at hw;exact⟨by omega,HJ,⟨hl,hx⟩,(by have e:=congrArg Hd.s hj;rw[e];exact s_0),(by have:=hw.1.1;omega),(by have e:=congrArg Hd.f hj;rw[e];exact E9),(by have e:=congrArg Hd.c1 hj;rw[e];exact z7),(by have e:=congrArg Hd.r1 hj;rw[e];exact z7),(by have e:=congrArg Hd.c2 hj;rw[e];exact z7),(by have e:=congrArg Hd.r2 hj;rw[e];exact z7),(by rw[if_neg k7,if_pos k8];exact hw.1.2),fun q=>absurd q (by omega)⟩
 by_cases k9:h.k=9
 ·rw[if_neg k1,if_neg k2,if_neg k3,if_neg k4,if_neg k5,if_neg k6,if_neg k7,if_neg k8,if_pos k9] at hw;rw[if_neg k1,if_neg k2,if_neg k3,if_neg k4,if_neg k5,if_neg k6,if_neg k7,if_neg k8] at hj;rw[if_neg (by omega),if_neg (by omega),if_pos k9] at ho2;have hkn:(known h.s).2.2=true:=by
   cases q:(known h.s).2.2 with
   | true=>rfl
   | false=>unfold Q8 at ho2;rw[if_pos q] at ho2;omega
  exact⟨by omega,HJ,⟨hl,hx⟩,(jAG hkn),(by have e:=congrArg Hd.o hj;rw[e];exact E9),(by have e:=congrArg Hd.f hj;rw[e];exact E9),(by have e:=congrArg Hd.c1 hj;rw[e];exact z7),(by have e:=congrArg Hd.r1 hj;rw[e];exact z7),(by have e:=congrArg Hd.c2 hj;rw[e];exact z7),(by have e:=congrArg Hd.r2 hj;rw[e];exact z7),(by rw[if_neg k7,if_neg k8,if_pos k9];exact hn),fun q=>absurd q (by omega)⟩
 rw[if_neg k1,if_neg k2,if_neg k3,if_neg k4,if_neg k5,if_neg k6,if_neg k7,if_neg k8,if_neg k9] at hw;cases hw
mutual
theorem j4O:∀(t:Nd) (c:Bool),t.fe c=0->cpy t=t->t.ok->t.size<=256->KnN t
 | .mk h ts,c,h0,hc,hok,hs=>by
  obtain⟨hx,hcl⟩:=j8r hc;rw[Nd.ok] at hok;rw[Nd.size] at hs;have hlen:=j07 ts;rw[Nd.fe] at h0;by_cases ho:ownE h ts.length c=0
  ·rw[if_neg (by rw[ho];decide)] at h0;rw[KnN];exact⟨jBZ ho hx hok.1 (by omega),j4K ts _ h0 hcl hok.2 (by omega)⟩
  ·rw[if_pos ho] at h0;exact absurd h0 ho
theorem j4K:∀(ts:List Nd) (c:Bool),feL ts c=0->cpyL ts=ts->okL ts->j5 ts<=256->KnL ts
 | [],_,_,_,_,_=>by rw[KnL];trivial
 | t::ts,c,h0,hc,hok,hs=>by
  rw[feL] at h0;rw[cpyL] at hc;injection hc with hc1 hc2;rw[okL] at hok;rw[j5] at hs;by_cases ht:t.fe c=0
  ·rw[if_neg (by rw[ht];decide)] at h0;rw[KnL];exact⟨j4O t c ht hc1 hok.1 (by omega),j4K ts c h0 hc2 hok.2 (by omega)⟩
  ·rw[if_pos ht] at h0;exact absurd h0 ht
end
theorem j2H {a:Ct}(h:Gd a):KnC a:=by
 have hv:=h.val;have hk:=h.k;have hcp:=h.cp;have hx1:one a.v.x=a.v.x:=congrArg (fun c:Ct=>c.v.x) hcp;have ht1:cpy a.t=a.t:=congrArg Ct.t hcp;unfold gv Q7 at hv;simp only[Bool.or_eq_true,Bool.and_eq_true,beq_iff_eq,bne_iff_ne] at hv;rcases hv with (q|q)|q
 ·exact absurd q.1 hk
 ·obtain⟨q1,⟨q2,q3⟩,_⟩:=q;refine .plain q1 ?_;unfold G5 F8 isF at q3;simp only[Bool.or_eq_true,Bool.and_eq_true,beq_iff_eq,decide_eq_true_eq,Bool.not_eq_true'] at q3;obtain⟨⟨⟨⟨b1,b2⟩,b3⟩,b4⟩,b5⟩:=q3;have hk4:1<=a.v.k/\a.v.k<=4:=by omega
  refine⟨hk4,⟨h.x,hx1⟩,?_,?_⟩
  ·rcases b2 with b2|b2
   ·rcases b5 with (((b5|b5)|b5)|b5)|b5
    ·omega
    ·omega
    ·omega
    ·have:=b5.1.2;omega
    ·omega
   ·have e:a.v.s=⟨#[]⟩:=j00 (by rw[b2,ByteArray.toList_eq]);rw[e];decide
  ·rcases b4 with b4|b4
   ·rcases b5 with (((b5|b5)|b5)|b5)|b5
    ·omega
    ·omega
    ·omega
    ·omega
    ·omega
   ·omega
 ·obtain⟨q1,_,q3⟩:=q;unfold chk at q3;by_cases hs:256<a.t.size
  ·rw[if_pos hs] at q3;omega
  ·rw[if_neg hs] at q3;by_cases hd:32<a.t.dep
   ·rw[if_pos hd] at q3;omega
   ·rw[if_neg hd] at q3;exact .form q1 (j4O a.t false q3 ht1 h.ok (by omega)) (by omega)
def cB (x:Cc):List UInt8:=L2 x.1.1.toNat x.1.2.toNat x.2
def csB (K:List Cc):List UInt8:=K.flatMap cB
def D5:List UInt8:=[81,68,82,49]
def D6 (K:List Cc):List UInt8:=D5++le 2 K.length++csB K
def D2 (K:List Cc):List UInt8:=D6 K++le 4 (crcS (D6 K))
theorem j3s (K:List Cc)(k:Nat)(h:k<K.length):csB (K.take (k+1))=csB (K.take k)++cB K[k]:=by
 unfold csB;rw[List.take_add_one,List.getElem?_eq_getElem h,List.flatMap_append]
 congr 1
 simp
theorem j3r (K:List Cc)(k:Nat):(csB (K.take k)).length<=(csB K).length:=by
 have e:csB K=csB (K.take k)++csB (K.drop k):=by
  unfold csB;rw[<- List.flatMap_append,List.take_append_drop]
 rw[e,List.length_append];omega
end
section
open Go.RowKit Go.Maps Go.Sort Go.Lib Go.Shelf
attribute [local go_sem] Oper.semAt_some
theorem Bw.kpS {w w':World}{b:Nat}{g:Option Nat}{l:List UInt8}{S:Nat->Prop}(h:Bw w b g l)(k:Kp w w' S)(hb:¬S b)(hg:∀i,g=some i->¬S i):Bw w' b g l:=by
 obtain⟨p,v,hp,hbk,ho,hgv,hne⟩:=h;have hlt:b<w.heap.size:=(Array.getElem?_eq_some_iff.1 hbk).1;refine⟨p,v,hp,(k.block b hlt hb).trans hbk,⟨ho.1,?_⟩,hgv,hne⟩;rcases ho.2 with h1|⟨r,cap,cur,fz,rfl,h2,h3,h4⟩
 ·exact .inl h1
 ·have hr:g=some r:=hgv.symm;exact .inr ⟨r,cap,cur,fz,rfl,h2,(k.block r (Array.getElem?_eq_some_iff.1 h3).1 (hg r hr)).trans h3,h4⟩
theorem Bw.row_lt {w:World}{b:Nat}{g:Option Nat}{l:List UInt8}(h:Bw w b g l):∀i,g=some i->i<w.heap.size:=by
 obtain⟨p,v,hp,hb,ho,hg,hne⟩:=h;intro i e;obtain⟨c',fz,hc'⟩:=Lib.ownsRowF_kind ho i (hg.trans e);exact(Array.getElem?_eq_some_iff.1 hc').1
theorem Bw.fresh {w:World}{b:Nat}(h:Blk w b [.pointer none,.slice none 0 0] 74):Bw w b none []:=
 ⟨_,_,.inl rfl,h,⟨rfl,.inl ⟨rfl,rfl⟩⟩,rfl,by simp⟩
theorem j2d (g:Nat)(w:World):(binOp .eql 23 (.pointer (some ⟨g,0,none⟩)) (.pointer none)).run Tryz.prog w=.ok (.bool false) w:=by
 simp[go_sem]
structure PkI (w:World) (n6:Nat) (l0:List UInt8) (K:List Cc) (j:Nat) (Z:Nat->Prop) (W:World) (g:Option Nat):Prop where
 bw:Bw W (w.heap.size+2) g (l0++csB (K.take j))
 z:∀i,Z i↔i=w.heap.size∨i=w.heap.size+1∨i=w.heap.size+2∨g=some i
 kp:Kp w W Nul
 r0:Blk W w.heap.size [.string ⟨#[]⟩] 9
 r1:Blk W (w.heap.size+1) [.int .i64 0] 27
 gr:∀i,g=some i->w.heap.size+3<=i/\i≠n6/\i≠n6+1
 len:(l0++csB (K.take j)).length+4<=4194304
def pkS (K:List Cc):List UInt8:=if (D2 K).length<=4194304 then D2 K else []
def pkE (K:List Cc):Int:=if (D2 K).length<=4194304 then 0 else 2
theorem X7 (K:List Cc):(D2 K).length=(D6 K).length+4:=by unfold D2;rw[List.length_append,D8]
theorem j0o (n:Nat)(hn:n<4294967296)(w:World):(convert 86 80 (.int .u32 n)).run Tryz.prog w=.ok (.int .u64 n) w:=by
 have e:(n:Int)%18446744073709551616=n:=by omega
 simp[go_sem,convert,run_underlying Tryz.underlying80,run_underlying Tryz.underlying86,IntKind.wrap,IntKind.signed,e]
theorem jBg (g:Nat)(L K:List Cc)(w:World)(hg:GI 0 w g L)(hL:Ok17 L)(hKs:D7 (K.map (·.1)))(hKm:∀x,x∈K↔x∈L)(hKl:K.length=L.length)(hs:Sh w):
 Calls Tryz.prog 7 #[.pointer (some ⟨g,0,none⟩)] w fun e w'=>e=.returned (.tuple #[.string ⟨(pkS K).toArray⟩,.int .i64 (pkE K)])/\Kp w w' Nul:=by
 obtain⟨W1,hW1⟩:∃W1,((w.alloc (.cells #[.string ⟨#[]⟩] 9)).alloc (.cells #[.int .i64 0] 27)).alloc (.cells #[.pointer none,.slice none 0 0] 74)=W1:=⟨_,rfl⟩;have k1:Kp w W1 Nul:=by rw[<- hW1];exact(((Kp.refl w Nul).alloc _).alloc _).alloc _
 have s1:W1.heap.size=w.heap.size+3:=by rw[<- hW1,World.size_alloc,World.size_alloc,World.size_alloc]
 have br0:Blk W1 w.heap.size [.string ⟨#[]⟩] 9:=by rw[<- hW1];exact((Blk.new w [.string ⟨#[]⟩] _).alloc _).alloc _
 have br1:Blk W1 (w.heap.size+1) [.int .i64 0] 27:=by
  have:=Blk.new (w.alloc (.cells #[.string ⟨#[]⟩] 9)) [.int .i64 0] 27;rw[World.size_alloc] at this;rw[<- hW1];exact this.alloc _
 have bw1:Blk W1 (w.heap.size+2) [.pointer none,.slice none 0 0] 74:=by
  have:=Blk.new ((w.alloc (.cells #[.string ⟨#[]⟩] 9)).alloc (.cells #[.int .i64 0] 27)) [.pointer none,.slice none 0 0] 74;rw[World.size_alloc,World.size_alloc] at this;rw[<- hW1];exact this
 have hgs:1<w.heap.size:=by obtain⟨T,fr,h⟩:=hs;exact(Array.getElem?_eq_some_iff.1 h).1
 have HW1:Hid (((w.alloc (.cells #[.string ⟨#[]⟩] 9)).alloc (.cells #[.int .i64 0] 27)).alloc (.cells #[.pointer none,.slice none 0 0] 74)=W1):=hW1;have H1:Hid (Calls Tryz.prog 27 #[.pointer (some ⟨w.heap.size+2,0,none⟩),.string ⟨#[81,68,82,49]⟩] W1 fun e w'=>(∃v,e=.returned v)/\∃g',Bw w' (w.heap.size+2) g' D5/\Wr (w.heap.size+2) W1 w' none g'):=j6w _ none [] ⟨#[81,68,82,49]⟩ W1 (Bw.fresh bw1) (by decide);have H2:Hid (∀g' w',Bw w' (w.heap.size+2) g' D5->Calls Tryz.prog 28 #[.pointer (some ⟨w.heap.size+2,0,none⟩),.int .u64 L.length,.int .i64 2] w' fun e w2=>WrR (w.heap.size+2) (D5++le 2 L.length) w' g' e w2):=fun g' w' h'=>V7 _ g' D5 L.length 2 w' (by have:=hL.len;omega) h' (by decide)
 have HG:Hid (∀wq,Kp w wq Nul->GI 0 wq g L):=fun wq k=>hg.kp k
 have HGA:Hid (∀wq,Kp w wq Nul->j9 wq (fun b=>b<w.heap.size) g L):=fun wq k=>hg.low.kp k
 have HLn:Hid (∀wq,Kp w wq Nul->Calls Tryz.prog 29 #[.pointer (some ⟨g,0,none⟩)] wq fun e w'=>e=.returned (.int .i64 L.length)/\w'=wq):=fun wq k=>jAO wq _ g L (hg.kp k)
 have HOk:Hid (Ok17 L):=hL;have HKs:Hid (D7 (K.map (·.1))):=hKs;have HKm:Hid (∀x,x∈K↔x∈L):=hKm;have HKl:Hid (K.length=L.length):=hKl;have HSh:Hid (∀wq,Kp w wq Nul->Sh wq):=fun wq k=>hs.kp k (fun x=>x)
 have HGs:Hid (1<w.heap.size):=hgs;have HK1:Hid (Kp w W1 Nul):=k1;have HR0:Hid (Blk W1 w.heap.size [.string ⟨#[]⟩] 9):=br0;have HR1:Hid (Blk W1 (w.heap.size+1) [.int .i64 0] 27):=br1;have HS1:Hid (W1.heap.size=w.heap.size+3):=s1;have hng:=fun wq=>j2d g wq
 have hcv:=Q6 L.length (by have:=hL.len;omega);clear hW1 hg hL hKs hKm hKl hs k1 s1 br0 br1 bw1 hgs;refine(callsIn_wide (n:=12)).1 ?_;refine callsIn_of_wp_marks Tryz.func7 rfl trivial ?_ rfl;simp only[Tryz.ntmps7,List.size_toArray,List.length_cons,List.length_nil,Nat.reduceAdd,Nat.reduceSub,Array.replicate_succ,Array.replicate_zero,List.push_toArray,List.append_toArray,List.nil_append,List.cons_append];refine wpIn_wide.2 ?_;go_wp2_with (first|(rw[HW1.out])|fail);refine H1.out.mono ?_;rintro e w2 ⟨⟨v,rfl⟩,g2,hb2,hw2⟩;have HB2:Hid (Bw w2 (w.heap.size+2) g2 D5):=hb2;have HW2:Hid (Wr (w.heap.size+2) W1 w2 none g2):=hw2;have HK2:Hid (Kp w w2 Nul):=HK1.out.trans' hw2.kp (fun i hi e=>by rcases e with e|e;omega;cases e);clear hb2 hw2 H1 HW1;go_wp2_with fail;refine(HLn.out _ HK2.out).mono ?_;rintro e w2' ⟨rfl,hz⟩;replace hz:=hz.symm;subst hz;go_wp2_with fail;refine(H2.out _ _ HB2.out).mono ?_
 rintro e w5 ⟨rfl,g5,hb5,hw5⟩;have HB5:Hid (Bw w5 (w.heap.size+2) g5 (D5++le 2 L.length)):=hb5;have HW5:Hid (Wr (w.heap.size+2) W1 w5 none g5):=HW2.out.trans hw5;have HK5:Hid (Kp w w5 Nul):=HK1.out.trans' HW5.out.kp (fun i hi e=>by rcases e with e|e;omega;cases e);have HAll:Hid (Calls Tryz.prog 30 #[.pointer (some ⟨g,0,none⟩)] w5 fun e w'=>∃x0 x1,e=.returned (.func (.func 123) #[] #[.pointer (some ⟨x0,0,none⟩),.pointer (some ⟨x1,0,none⟩)])/\Blk w' x0 [.pointer (some ⟨g,0,none⟩)] 23/\Blk w' x1 [.int .i64 1,.int .i64 1,.int .i64 256,.int .i64 4096] 134/\Kp w5 w' Nul):=j3N g w5;clear hb5 hw5 H2 HB2 HW2 HK2 hcv HLn;go_wp2_with fail;refine HAll.out.mono ?_;rintro e w6 ⟨x0,x1,rfl,hb0,hb1,hk6⟩;have HX0:Hid (Blk w6 x0 [.pointer (some ⟨g,0,none⟩)] 23):=hb0;have HX1:Hid (Blk w6 x1 [.int .i64 1,.int .i64 1,.int .i64 256,.int .i64 4096] 134):=hb1
 have k6:Kp w w6 Nul:=HK5.out.trans hk6;have hs6:w.heap.size+3<=w6.heap.size:=by have:=HS1.out;have:=HW5.out.kp.size;have:=hk6.size;omega
 have HI0:PkI w w6.heap.size (D5++le 2 L.length) K 0 (fun i=>i=w.heap.size∨i=w.heap.size+1∨i=w.heap.size+2∨g5=some i) w6 g5:=by
  have hl0:D5++le 2 L.length++csB (K.take 0)=D5++le 2 L.length:=by rw[List.take_zero];unfold csB;rw[List.flatMap_nil,List.append_nil]
  refine⟨by rw[hl0];exact HB5.out.kp hk6,fun i=>Iff.rfl,k6,?_,?_,?_,by rw[hl0,List.length_append,D8];decide⟩
  ·exact(HR0.out.kp HW5.out.kp (fun e=>by rcases e with e|e;omega;cases e)).kp hk6 (fun x=>x)
  ·exact(HR1.out.kp HW5.out.kp (fun e=>by rcases e with e|e;omega;cases e)).kp hk6 (fun x=>x)
  ·intro i e;have h1:=HB5.out.row_lt i e;have h2:=hk6.size;rcases HW5.out.row with r|⟨j,r,hj⟩
   ·rw[r] at e;cases e
   ·rw[r] at e;injection e with e;have:=HS1.out;omega
 have hgA:j9 w6 (fun b=>b<w.heap.size) g L:=HGA.out w6 k6;clear hb0 hb1 hk6 HAll HB5 HW5 HK5 HR0 HR1 HK1 HS1;go_wp2_with fail;obtain⟨l0,hl0⟩:∃l0,D5++le 2 L.length=l0:=⟨_,rfl⟩;have HL0:Hid (l0++csB K=D6 K):=by show _=_;rw[<- hl0,<- HKl.out];rfl
 rw[hl0] at HI0;clear hl0;generalize hact:Act.mk _ _=a0;refine j6t (α:=(Cc×Value)×List Nat) (N:=K.length) (gf:=123) (lb:=#[.pointer (some ⟨x0,0,none⟩),.pointer (some ⟨x1,0,none⟩)]) (by rw[<- hact];rfl) (enters_of Tryz.func123 (by kernel_rfl) rfl) (encs:=encQ) wtQ (fun _=>rfl) (j0v w6 K) ?hT (fun i=>w.heap.size<=i) ?hseq (fun j Z W=>∃g',PkI w w6.heap.size l0 K j Z W g') ?hZ ?hZl ?hI (fun V=>Blk V w.heap.size [.string ⟨#[]⟩] 9/\Blk V (w.heap.size+1) [.int .i64 2] 27/\Kp w V Nul/\4194304<(D6 K).length+4) ?hIx (fun i=>i=w.heap.size∨i=w.heap.size+1∨i=w.heap.size+2∨g5=some i) ⟨g5,HI0⟩ ?hround ?hdone ?hstop
 case hT=>rintro k x Z W ⟨_,_,_,h⟩;exact⟨fun q=>by have:=(h _ q).1;omega,fun q=>by have:=(h _ q).1;omega⟩
 case hseq=>exact j4a g x0 x1 w.heap.size L K w6 _ (HG.out _ k6) hgA HOk.out.gd HOk.out.at' HOk.out.len HKs.out HKm.out k6.size (fun i e=>e) HX0.out HX1.out
 case hZ=>
  rintro j Z W ⟨g',h⟩;refine⟨fun q=>?_,fun q=>?_⟩
  ·rcases(h.z _).1 q with e|e|e|e
   ·omega
   ·omega
   ·omega
   ·exact(h.gr _ e).2.1 rfl
  ·rcases(h.z _).1 q with e|e|e|e
   ·omega
   ·omega
   ·omega
   ·exact(h.gr _ e).2.2 rfl
 case hZl=>
  rintro j Z W ⟨g',h⟩;have h1:=h.r0.lt;have h2:=h.r1.lt;have h3:=h.bw.lt;refine⟨fun i hi=>?_,fun i _ hi=>?_⟩
  ·rcases(h.z _).1 hi with e|e|e|e
   ·omega
   ·omega
   ·omega
   ·exact h.bw.row_lt i e
  ·show w.heap.size<=i;rcases(h.z _).1 hi with e|e|e|e
   ·omega
   ·omega
   ·omega
   ·have:=(h.gr _ e).1;omega
 case hI=>
  rintro j Z W W' ⟨g',h⟩ q;exact⟨g',h.bw.kpS q (fun e=>by rcases e with e|e <;> omega) (fun i e1 e2=>by rcases e2 with e2|e2;exact(h.gr i e1).2.1 e2;exact(h.gr i e1).2.2 e2),h.z,h.kp.trans' q (fun i hi e=>by rcases e with e|e <;> omega),h.r0.kp q (fun e=>by rcases e with e|e <;> omega),h.r1.kp q (fun e=>by rcases e with e|e <;> omega),h.gr,h.len⟩
 case hIx=>
  rintro W W' ⟨h1,h2,h3,h4⟩ q;exact⟨h1.kp q (fun e=>by rcases e with e|e <;> omega),h2.kp q (fun e=>by rcases e with e|e <;> omega),h3.trans' q (fun i hi e=>by rcases e with e|e <;> omega),h4⟩
 case hround=>
  subst hact;rintro j ⟨⟨⟨⟨c,s⟩,a⟩,sl⟩,fp⟩ Z W KK hkN hsW ⟨g',hI⟩ ⟨hKk,hown,hnd,hfz⟩ hcont;have O1:Hid (sl.oneCell'=true):=hown.one;have hmem:((c,s),a)∈L:=(HKm.out _).1 (List.mem_of_getElem? hKk);have HKn:Hid (KnC a):=j2H (HOk.out.gd _ hmem);have hvc:vC c s=true:=HOk.out.at' _ hmem;rw[Z3] at hvc;obtain⟨cn,rfl⟩:∃cn:Nat,c=cn:=⟨c.toNat,by omega⟩;obtain⟨sn,rfl⟩:∃sn:Nat,s=sn:=⟨s.toNat,by omega⟩;have HCS:Hid (cn<65536/\sn<65536):=⟨by omega,by omega⟩;have HKk:Hid (csB (K.take (j+1))=csB (K.take j)++L2 cn sn a):=by
   show _=_;rw[j3s K j hkN];have:K[j]=(((cn:Int),(sn:Int)),a):=by
    rw[List.getElem?_eq_getElem hkN] at hKk;injection hKk
   rw[this];unfold cB;simp only[Int.toNat_natCast]
  have HIj:Hid (PkI w w6.heap.size l0 K j Z W g'):=hI;have HOwn:Hid (E6 W sl a.t fp):=hown;have HFz:Hid (∀i∈fp,w6.heap.size+2<=i/\¬Z i):=hfz;have HSW:Hid (w6.heap.size+2<=W.heap.size/\w.heap.size+3<=w6.heap.size):=⟨hsW,hs6⟩;clear hI hKk hown hnd hfz hmem hvc HX0 HX1 HI0 hgA k6 HG HGA HOk hsW hs6;simp only[List.zip_toArray,List.zip_cons_cons,List.zip_nil_right,List.foldl_toArray',List.foldl_cons,List.foldl_nil]
  gi_wp2_with (first
   | (refine j34 rfl 66 (.tmp 6) (.tmp 18) rfl _ _ _ _ (by first|rfl|simp) rfl rfl rfl E8 (a.one O1.out) ?_)
   | fail)
  refine hcont _ _ (((Kp.refl W Nul).alloc _).alloc _) (fun V hV hloop=>?_);have hW2:Kp W ((W.alloc (.cells #[.int .i64 cn,.int .i64 sn] 57)).alloc (.cells (a.cells sl).toArray 66)) Nul:=((Kp.refl W Nul).alloc _).alloc _;have hWV:Kp W V (fun i=>i=w6.heap.size+1):=(hW2.mono (fun _ _ q=>q.elim)).trans hV;have HWV:Hid (Kp W V (fun i=>i=w6.heap.size+1)):=hWV;have HbA:Hid (Blk V W.heap.size [.int .i64 cn,.int .i64 sn] 57):=((Blk.new W [.int .i64 cn,.int .i64 sn] 57).alloc _).kp hV (fun e=>by have e':W.heap.size=w6.heap.size+1:=e;have:=HSW.out;omega);have HbC:Hid (Blk V (W.heap.size+1) (a.cells sl) 66):=by
   have h1:=Blk.new (W.alloc (.cells #[.int .i64 cn,.int .i64 sn] 57)) (a.cells sl) 66;rw[World.size_alloc] at h1;exact h1.kp hV (fun e=>by have e':W.heap.size+1=w6.heap.size+1:=e;have:=HSW.out;omega)
  have HOwnV:Hid (E6 V sl a.t fp):=HOwn.out.mono (fun i hi=>hWV.block i (j2f (HOwn.out.node i hi)) (fun e=>by have e':i=w6.heap.size+1:=e;have:=(HFz.out i hi).1;omega));have HBV:Hid (Bw V (w.heap.size+2) g' (l0++csB (K.take j))):=HIj.out.bw.kpS hWV (fun e=>by have e':w.heap.size+2=w6.heap.size+1:=e;have:=HSW.out;omega) (fun i e1 e2=>(HIj.out.gr i e1).2.2 e2);have HKV:Hid (Kp w V Nul):=HIj.out.kp.trans' hWV (fun i hi e=>by have e':i=w6.heap.size+1:=e;have:=HSW.out;omega);have HV0:Hid (Blk V w.heap.size [.string ⟨#[]⟩] 9):=HIj.out.r0.kp hWV (fun e=>by have e':w.heap.size=w6.heap.size+1:=e;have:=HSW.out;omega);have HV1:Hid (Blk V (w.heap.size+1) [.int .i64 0] 27):=HIj.out.r1.kp hWV (fun e=>by have e':w.heap.size+1=w6.heap.size+1:=e;have:=HSW.out;omega);have HVs:Hid (W.heap.size+1<V.heap.size):=HbC.out.lt;have HCell:Hid (Calls Tryz.prog 31 #[.pointer (some ⟨w.heap.size+2,0,none⟩),.agg #[.int .i64 cn,.int .i64 sn],.agg (a.cells sl).toArray] V fun e w'=>WrR (w.heap.size+2) (l0++csB (K.take (j+1))) V g' e w'):=by
   have h:=jEr (w.heap.size+2) g' (l0++csB (K.take j)) cn sn a sl (fun i=>i∈fp) V HCS.out.1 HCS.out.2 HKn.out O1.out (HOwnV.out.isIn (fun i hi=>hi)) (fun i hi=>⟨fun e=>(HFz.out i hi).2 ((HIj.out.z i).2 (.inr (.inr (.inl e)))),fun e=>(HFz.out i hi).2 ((HIj.out.z i).2 (.inr (.inr (.inr e)))),j2f (HOwnV.out.node i hi)⟩) (fun i hi=>by
    have hi':i=1:=hi;have h1:=HGs.out;refine⟨by omega,fun e=>?_,by have:=HKV.out.size;omega⟩;have:=(HIj.out.gr i e).1;omega) (HSh.out V HKV.out) HBV.out (by have:=HIj.out.len;omega)
   rw[List.append_assoc,<- HKk.out] at h;exact h
  clear hcont hV hW2 hWV hloop;have lA0:V.cell? ⟨W.heap.size,0,none⟩=some (.int .i64 cn):=HbA.out.cell rfl;have lA1:V.cell? ⟨W.heap.size,1,none⟩=some (.int .i64 sn):=HbA.out.cell rfl
  gi_wp2_with (first
   | (refine jAQ rfl (.tmp 6) rfl (W.heap.size+1) rfl (a.cells sl).toArray HbC.out rfl ?_)
   | fail)
  refine⟨trivial,CallsIn.inRound _ ((callsIn_wide.2 HCell.out).mono ?_)⟩;rintro e X ⟨rfl,g2,hb2,hw2⟩;have HBX:Hid (Bw X (w.heap.size+2) g2 (l0++csB (K.take (j+1)))):=hb2;have HWX:Hid (Wr (w.heap.size+2) V X g' g2):=hw2;have HGr2:Hid (∀i,g2=some i->w.heap.size+3<=i/\i≠w6.heap.size/\i≠w6.heap.size+1):=fun i e=>by
   rcases hw2.row with r|⟨i',r,hi'⟩
   ·exact HIj.out.gr i (r.symm.trans e)
   ·rw[r] at e;injection e with e;have:=HSW.out;have:=HVs.out;omega
  have HX0:Hid (Blk X w.heap.size [.string ⟨#[]⟩] 9):=HV0.out.kp hw2.kp (fun e=>by
   rcases e with e|e
   ·omega
   ·have:=(HIj.out.gr _ e).1;omega)
  have HX1:Hid (Blk X (w.heap.size+1) [.int .i64 0] 27):=HV1.out.kp hw2.kp (fun e=>by
   rcases e with e|e
   ·omega
   ·have:=(HIj.out.gr _ e).1;omega)
  have HKX:Hid (Kp w X Nul):=HKV.out.trans' hw2.kp (fun i hi e=>by
   rcases e with e|e
   ·omega
   ·have:=(HIj.out.gr _ e).1;omega)
  have HLe:Hid (Calls Tryz.prog 32 #[.pointer (some ⟨w.heap.size+2,0,none⟩)] X fun e w'=>e=.returned (.int .i64 ((l0++csB (K.take (j+1))).length:Nat))/\w'=X):=jEw _ g2 _ X hb2;obtain⟨m,hm⟩:∃m:Int,(((l0++csB (K.take (j+1))).length:Nat):Int)=m:=⟨_,rfl⟩;have HM:Hid ((((l0++csB (K.take (j+1))).length:Nat):Int)=m):=hm;rw[hm] at HLe;have hmb:0<=m/\m<=100000000:=by
   rw[<- hm,HKk.out,<- List.append_assoc,List.length_append];have h1:=HIj.out.len;have h2:=j1w (c:=cn) (r:=sn) HKn.out;omega
  obtain⟨hm0,hm1⟩:=hmb;clear hb2 hw2 hm lA0 lA1 HCell
  gi_wp2_with (fail)
  refine⟨trivial,CallsIn.inRound _ ((callsIn_wide.2 HLe.out).mono ?_)⟩;rintro e X' ⟨rfl,hz⟩;replace hz:=hz.symm;subst hz;clear HLe;by_cases hq:4194304<m+4
  ·gi_wp2_with (first
    | (refine j6J rfl 9 (.tmp 2) _ rfl w.heap.size rfl (.string ⟨#[]⟩) rfl rfl 9 (.string ⟨#[]⟩) HX0.out (by kernel_rfl) ?_;intro Y1 hY1 hkY1;have HY1:Hid (Blk Y1 w.heap.size [.string ⟨#[]⟩] 9):=hY1;have HKY1:Hid (Kp X Y1 (fun i=>i=w.heap.size)):=hkY1;clear hY1 hkY1;have HZ1:Hid (Blk Y1 (w.heap.size+1) [.int .i64 0] 27):=HX1.out.kp HKY1.out (fun e=>by have e':w.heap.size+1=w.heap.size:=e;omega))
    | (refine j6J rfl 27 (.tmp 3) _ rfl (w.heap.size+1) rfl (.int .i64 2) rfl rfl 27 (.int .i64 0) HZ1.out (by kernel_rfl) ?_;intro Y2 hY2 hkY2)
    | fail)
   have hKVX:Kp V X (fun i=>(Z i∨wtQ (((((cn:Int),(sn:Int)),a),sl),fp) i)∨W.heap.size<=i):=HWX.out.kp.mono (fun i _ e=>.inl (.inl ((HIj.out.z i).2 (by
    rcases e with e|e
    ·exact .inr (.inr (.inl e))
    ·exact .inr (.inr (.inr e))))))
   have hKV2:=(hKVX.trans (HKY1.out.mono (fun i _ e=>.inl (.inl ((HIj.out.z i).2 (.inl e)))))).trans (hkY2.mono (fun i _ e=>.inl (.inl ((HIj.out.z i).2 (.inr (.inl e))))));have hIx:Blk Y2 w.heap.size [.string ⟨#[]⟩] 9/\Blk Y2 (w.heap.size+1) [.int .i64 2] 27/\Kp w Y2 Nul/\4194304<(D6 K).length+4:=by
    refine⟨HY1.out.kp hkY2 (fun e=>by have e':w.heap.size=w.heap.size+1:=e;omega),hY2,(HKX.out.trans' HKY1.out (fun i hi e=>by have e':i=w.heap.size:=e;omega)).trans' hkY2 (fun i hi e=>by have e':i=w.heap.size+1:=e;omega),?_⟩;have h1:=HM.out;have h2:=j3r K (j+1);rw[<- HL0.out];rw[List.length_append] at h1 ⊢;omega
   first
   | exact .inr ⟨rfl,hKV2,hIx⟩
   | exact⟨hKV2,hIx.1,hIx.2.2⟩
  ·gi_wp2_with (fail)
   have hKVX:Kp V X (fun i=>(Z i∨wtQ (((((cn:Int),(sn:Int)),a),sl),fp) i)∨W.heap.size<=i):=HWX.out.kp.mono (fun i _ e=>.inl (.inl ((HIj.out.z i).2 (by
    rcases e with e|e
    ·exact .inr (.inr (.inl e))
    ·exact .inr (.inr (.inr e))))))
   have hI':PkI w w6.heap.size l0 K (j+1) (fun i=>i=w.heap.size∨i=w.heap.size+1∨i=w.heap.size+2∨g2=some i) X g2:=⟨HBX.out,fun i=>Iff.rfl,HKX.out,HX0.out,HX1.out,HGr2.out,by have:=HM.out;omega⟩;have hMore:More Z (fun i=>i=w.heap.size∨i=w.heap.size+1∨i=w.heap.size+2∨g2=some i) W:=by
    intro i hi;rcases hi with e|e|e|e
    ·exact .inl ((HIj.out.z i).2 (.inl e))
    ·exact .inl ((HIj.out.z i).2 (.inr (.inl e)))
    ·exact .inl ((HIj.out.z i).2 (.inr (.inr (.inl e))))
    ·rcases HWX.out.row with r|⟨i',r,hi'⟩
     ·exact .inl ((HIj.out.z i).2 (.inr (.inr (.inr (r.symm.trans e)))))
     ·rw[r] at e;injection e with e;exact .inr (by have:=HVs.out;omega)
   first
   | exact .inl ⟨rfl,hKVX,_,⟨g2,hI'⟩,hMore⟩
   | exact⟨hKVX,_,⟨g2,hI'⟩,hMore⟩
 case hdone=>
  subst hact;rintro D Z W hD ⟨g',hI⟩ hdef;have HI:Hid (PkI w w6.heap.size l0 K K.length Z W g'):=hI;have HDf:Hid (W.heap[D]? = some (.deferred (some []))):=hdef;have HDD:Hid (D=w6.heap.size):=hD;have HS6:Hid (w.heap.size+3<=w6.heap.size):=hs6;have HBd:Hid (l0++csB (K.take K.length)=D6 K):=by show _=_;rw[List.take_length];exact HL0.out
  have hb:Bw W (w.heap.size+2) g' (D6 K):=by have:=hI.bw;rw[HBd.out] at this;exact this
  have hlen:(D6 K).length+4<=4194304:=by have:=hI.len;rw[HBd.out] at this;exact this
  have hne:D6 K≠[]:=by unfold D6 D5;simp
  have HLen:Hid ((D6 K).length+4<=4194304):=hlen;have H1:Hid (Calls Tryz.prog 34 #[.pointer (some ⟨w.heap.size+2,0,none⟩)] W fun e w'=>e=.returned (.string ⟨(D6 K).toArray⟩)/\Bw w' (w.heap.size+2) g' (D6 K)/\Wr (w.heap.size+2) W w' g' g'):=j39 _ g' _ W hne hb;have H2:Hid (∀wq,Calls Tryz.prog 33 #[.string ⟨(D6 K).toArray⟩] wq fun e w'=>e=.returned (.int .u32 (crcS (D6 K)))/\Kp wq w' Nul):=fun wq=>j6M ⟨(D6 K).toArray⟩ wq (by show (D6 K).toArray.size<=_;rw[List.size_toArray];omega)
  have H3:Hid (∀wq,Bw wq (w.heap.size+2) g' (D6 K)->Calls Tryz.prog 28 #[.pointer (some ⟨w.heap.size+2,0,none⟩),.int .u64 (crcS (D6 K)),.int .i64 4] wq fun e w2=>WrR (w.heap.size+2) (D2 K) wq g' e w2):=fun wq h'=>V7 _ g' (D6 K) _ 4 wq (by have:=U4 (D6 K);omega) h' (by omega)
  have H4:Hid (∀g2 wq,Bw wq (w.heap.size+2) g2 (D2 K)->Calls Tryz.prog 34 #[.pointer (some ⟨w.heap.size+2,0,none⟩)] wq fun e w'=>e=.returned (.string ⟨(D2 K).toArray⟩)/\Bw w' (w.heap.size+2) g2 (D2 K)/\Wr (w.heap.size+2) wq w' g2 g2):=fun g2 wq h'=>j39 _ g2 _ wq (fun e=>by have:=X7 K;rw[e] at this;simp at this) h'
  have hcv:=j0o (crcS (D6 K)) (U4 _);clear hI hdef hD HX0 HX1 HI0 hgA k6 HG HGA HOk hs6 hb hlen hne;go_wp2_with fail;refine H1.out.mono ?_;rintro e w7 ⟨rfl,hb7,hw7⟩;have HB7:Hid (Bw w7 (w.heap.size+2) g' (D6 K)):=hb7;have HW7:Hid (Wr (w.heap.size+2) W w7 g' g'):=hw7;clear hb7 hw7 H1;generalize crcS (D6 K)=cs at *;go_wp2_with fail;refine(H2.out w7).mono ?_;rintro e w8 ⟨rfl,hk8⟩;have HB8:Hid (Bw w8 (w.heap.size+2) g' (D6 K)):=HB7.out.kp hk8;have HW8:Hid (Wr (w.heap.size+2) W w8 g' g'):=HW7.out.trans (Wr.nul hk8);clear hk8 H2 HB7 HW7;go_wp2_with fail;refine(H3.out w8 HB8.out).mono ?_;rintro e w9 ⟨rfl,g9,hb9,hw9⟩;have HB9:Hid (Bw w9 (w.heap.size+2) g9 (D2 K)):=hb9;have HW9:Hid (Wr (w.heap.size+2) W w9 g' g9):=HW8.out.trans hw9;clear hb9 hw9 H3 HB8 HW8 hcv;go_wp2_with fail;refine(H4.out g9 w9 HB9.out).mono ?_;rintro e wA ⟨rfl,hbA,hwA⟩;have HWA:Hid (Wr (w.heap.size+2) W wA g' g9):=HW9.out.trans hwA
  have HNo:Hid (∀i,(i=w.heap.size∨i=w.heap.size+1∨i=D)->¬(i=w.heap.size+2∨g'=some i)):=fun i hi e=>by
   have h1:=HDD.out;have h2:=HS6.out;rcases e with e|e
   ·rcases hi with q|q|q <;> omega
   ·obtain⟨q1,q2,q3⟩:=HI.out.gr i e;rcases hi with q|q|q <;> omega
  have HA0:Hid (Blk wA w.heap.size [.string ⟨#[]⟩] 9):=HI.out.r0.kp HWA.out.kp (HNo.out _ (.inl rfl));have HA1:Hid (Blk wA (w.heap.size+1) [.int .i64 0] 27):=HI.out.r1.kp HWA.out.kp (HNo.out _ (.inr (.inl rfl)));have HAD:Hid (wA.heap[D]? = some (.deferred (some []))):=(HWA.out.kp.block D (Array.getElem?_eq_some_iff.1 HDf.out).1 (HNo.out _ (.inr (.inr rfl)))).trans HDf.out;have HKA:Hid (Kp w wA Nul):=HI.out.kp.trans' HWA.out.kp (fun i hi e=>by
   rcases e with e|e
   ·omega
   ·have:=(HI.out.gr i e).1;omega)
  clear hbA hwA H4 HB9 HW9;go_wp2_with (first
   | (refine j0u rfl 9 (.tmp 2) (.tmp 32) rfl w.heap.size rfl (.string ⟨(D2 K).toArray⟩) rfl rfl 9 (.string ⟨#[]⟩) HA0.out (by kernel_rfl) ?_;intro Y1 hY1 hkY1;have HY1:Hid (Blk Y1 w.heap.size [.string ⟨(D2 K).toArray⟩] 9):=hY1;have HKY1:Hid (Kp wA Y1 (fun i=>i=w.heap.size)):=hkY1;clear hY1 hkY1;have HZ1:Hid (Blk Y1 (w.heap.size+1) [.int .i64 0] 27):=HA1.out.kp HKY1.out (fun e=>by have e':w.heap.size+1=w.heap.size:=e;omega))
   | (refine j0u rfl 27 (.tmp 3) _ rfl (w.heap.size+1) rfl (.int .i64 0) rfl rfl 27 (.int .i64 0) HZ1.out (by kernel_rfl) ?_;intro Y2 hY2 hkY2)
   | fail)
  have hD1:Y2.heap[D]? = some (.deferred (some [])):=by
   have h1:=HDD.out;have h2:=HS6.out;have e1:=(HKY1.out.block D (Array.getElem?_eq_some_iff.1 HAD.out).1 (fun e=>by have e':D=w.heap.size:=e;omega)).trans HAD.out;exact(hkY2.block D (Array.getElem?_eq_some_iff.1 e1).1 (fun e=>by have e':D=w.heap.size+1:=e;omega)).trans e1
  refine⟨by simp,.inl ⟨_,_,rfl,run_takeDeferred hD1,?_⟩⟩;have hnD:¬w.heap.size=D/\¬w.heap.size+1=D:=by have h1:=HDD.out;have h2:=HS6.out;omega
  have q0:Blk (Y2.putObj D (.deferred none)) w.heap.size [.string ⟨(D2 K).toArray⟩] 9:=(HY1.out.kp hkY2 (fun e=>by have e':w.heap.size=w.heap.size+1:=e;omega)).kp J8 (fun e=>hnD.1 e);have q1:Blk (Y2.putObj D (.deferred none)) (w.heap.size+1) [.int .i64 0] 27:=hY2.kp J8 (fun e=>hnD.2 e);have hS:pkS K=D2 K/\pkE K=0:=by unfold pkS pkE;rw[if_pos (by rw[X7];exact HLen.out),if_pos (by rw[X7];exact HLen.out)];exact⟨rfl,rfl⟩
  refine⟨.tuple #[.string ⟨(D2 K).toArray⟩,.int .i64 0],?res,by rw[hS.1,hS.2],?_⟩
  case res=>
   have c1:=q0.cell (i:=0) rfl;have c2:=q1.cell (i:=0) rfl;rw[j5Y rfl];go_simp
  ·exact j0i ((HKA.out.trans' HKY1.out (fun i hi e=>by have e':i=w.heap.size:=e;omega)).trans' hkY2 (fun i hi e=>by have e':i=w.heap.size+1:=e;omega)) (by have h1:=HDD.out;have h2:=HS6.out;omega)
 case hstop=>
  subst hact;rintro D W hD ⟨h1,h2,h3,h4⟩ hdef;have hnD:¬w.heap.size=D/\¬w.heap.size+1=D:=by omega
  have q0:Blk (W.putObj D (.deferred none)) w.heap.size [.string ⟨#[]⟩] 9:=h1.kp J8 (fun e=>hnD.1 e);have q1:Blk (W.putObj D (.deferred none)) (w.heap.size+1) [.int .i64 2] 27:=h2.kp J8 (fun e=>hnD.2 e);have hS:pkS K=[]/\pkE K=2:=by unfold pkS pkE;rw[if_neg (by rw[X7];omega),if_neg (by rw[X7];omega)];exact⟨rfl,rfl⟩
  have HS:Hid (pkS K=[]/\pkE K=2):=hS;have HKf:Hid (Kp w (W.putObj D (.deferred none)) Nul):=j0i h3 (by omega);have HQ0:Hid (Blk (W.putObj D (.deferred none)) w.heap.size [.string ⟨#[]⟩] 9):=q0;have HQ1:Hid (Blk (W.putObj D (.deferred none)) (w.heap.size+1) [.int .i64 2] 27):=q1;have HDf:Hid (W.heap[D]? = some (.deferred (some []))):=hdef;clear h1 h2 h3 h4 hdef q0 q1 hS hnD hD;go_wp2_with fail;refine⟨by simp,.inl ⟨_,_,rfl,run_takeDeferred HDf.out,?_⟩⟩;refine⟨.tuple #[.string ⟨#[]⟩,.int .i64 2],?res,by rw[HS.out.1,HS.out.2],HKf.out⟩
  case res=>
   have c1:=HQ0.out.cell (i:=0) rfl;have c2:=HQ1.out.cell (i:=0) rfl;rw[j5Y rfl];go_simp
end
section
open Go.RowKit Go.Shelf
abbrev ef:List PanicEntry:=[{ v:=.iface 27 (.int .i64 3),recovered:=false }]
abbrev Rr (w:World) (r:Nat) (l:List UInt8) (k:Int):Prop:=Blk w r [.string ⟨l.toArray⟩,.int .i64 k] 114
inductive RdP (r:Nat) (w:World) (k:Int):Option (Value×List UInt8)->Ending->World->Prop
 | ok {v:Value} {l:List UInt8} {w':World} (h:Rr w' r l k) (kp:Kp w w' (fun i=>i=r)):RdP r w k (some (v,l)) (.returned v) w'
 | no {w':World} (kp:Kp w w' (fun i=>i=r)):RdP r w k none (.panicked ef) w'
theorem j2a (r:Value)(t:Bool)(w:World):Calls Tryz.prog 133 #[r,.bool t] w fun e w'=>(if t then e=.returned (.tuple #[]) else e=.panicked ef)/\w'=w:=by
 go_enter Tryz.func133,Tryz.ntmps133;cases t
 ·go_wp2;exact⟨rfl,rfl,rfl⟩
 ·go_wp2
  go_end0
  exact⟨rfl,rfl⟩
theorem j01 (l:List UInt8)(n:Nat):(ByteArray.mk l.toArray).extract 0 n=⟨(l.take n).toArray⟩:=by
 have h:((ByteArray.mk l.toArray).extract 0 n).data=(l.take n).toArray:=by
  rw[ByteArray.data_extract];simp[List.extract_eq_take_drop]
 exact congrArg ByteArray.mk h
theorem j0Q (l:List UInt8)(n:Nat):(ByteArray.mk l.toArray).extract n l.length=⟨(l.drop n).toArray⟩:=by
 have h:((ByteArray.mk l.toArray).extract n l.length).data=(l.drop n).toArray:=by
  rw[ByteArray.data_extract];simp[List.extract_eq_take_drop];rw[List.take_of_length_le (by rw[List.length_drop];omega)]
 exact congrArg ByteArray.mk h
theorem j6N (r:Nat)(l:List UInt8)(k:Int)(n:Nat)(w:World)(h:Rr w r l k):
 Calls Tryz.prog 103 #[.pointer (some ⟨r,0,none⟩),.int .i64 n] w fun e w'=>RdP r w k (if n<=l.length then some (.string ⟨(l.take n).toArray⟩,l.drop n) else none) e w':=by
 have H:Hid (∀v t w,Calls Tryz.prog 133 #[v,.bool t] w fun e w'=>(if t then e=.returned (.tuple #[]) else e=.panicked ef)/\w'=w):=fun v t w=>j2a v t w
 have l0:w.cell? ⟨r,0,none⟩=some (.string ⟨l.toArray⟩):=h.cell rfl;have f0:w.frozen? ⟨r,0,none⟩=false:=h.froz 0;have HB:Hid (Rr w r l k):=h;have hsz:((ByteArray.mk l.toArray).size:Int)=(l.length:Int):=by show ((l.toArray.size:Nat):Int)=_;rw[List.size_toArray]
 clear h;by_cases hq:n<=l.length
 ·rw[if_pos hq];have hq':(n:Int)<=(l.length:Int):=by omega
  have hd:decide ((n:Int)<=(l.length:Int))=true:=decide_eq_true hq';go_enter Tryz.func103,Tryz.ntmps103;go_wp2_with fail;refine(H.out _ true _).mono ?_;rintro e w1 ⟨he,hz⟩;replace hz:=hz.symm;subst hz;rw[if_pos rfl] at he;subst he;have HS:Hid (Rr (w.setCell ⟨r,0,none⟩ (.string ((ByteArray.mk l.toArray).extract n l.length))) r (l.drop n) k):=by
   have h1:=HB.out.set 0 (.string ((ByteArray.mk l.toArray).extract n l.length));rw[j0Q] at h1 ⊢;exact h1
  have HKf:Hid (Kp w (w.setCell ⟨r,0,none⟩ (.string ((ByteArray.mk l.toArray).extract n l.length))) (fun i=>i=r)):=(Kp.refl w _).setCell _ _ (.inr rfl);go_wp2_with fail;refine bodyPost_ret (results_tmp rfl _ _ _) rfl ?_;have e:(Value.string ((ByteArray.mk l.toArray).extract 0 n))=.string ⟨(l.take n).toArray⟩:=by rw[j01]
  have:=RdP.ok (r:=r) (w:=w) (k:=k) (v:=.string ((ByteArray.mk l.toArray).extract 0 n)) HS.out HKf.out;rw[e] at this;simp only[Array.getD_eq_getD_getElem?];rw[<- e] at this ⊢;exact this
 ·rw[if_neg hq];have hq':¬(n:Int)<=(l.length:Int):=by omega
  have hd:decide ((n:Int)<=(l.length:Int))=false:=decide_eq_false hq';go_enter Tryz.func103,Tryz.ntmps103;go_wp2_with fail;refine(H.out _ false _).mono ?_;rintro e w1 ⟨he,hz⟩;replace hz:=hz.symm;subst hz;rw[if_neg (by decide)] at he;subst he;go_wp2_with fail;exact⟨rfl,RdP.no (Kp.refl _ _)⟩
theorem jDR (t:List UInt8)(w:World):∃cap w2,(convert 9 70 (.string ⟨t.toArray⟩)).run Tryz.prog w=.ok (.slice (some ⟨w.heap.size,0,none⟩) t.length cap) w2/\Kp w w2 Nul/\∀j b,t[j]? = some b->w2.cell? ⟨w.heap.size,j,none⟩=some (.int .u8 (UInt8.toNat b)):=by
 have h:=run_bytes_of_string (P:=Tryz.prog) w 9 70 5 ⟨t.toArray⟩ Tryz.underlying9 Tryz.underlying70 Tryz.underlying5;have hs:(ByteArray.mk t.toArray).size=t.length:=by show t.toArray.size=_;rw[List.size_toArray]
 rw[hs] at h;refine⟨_,_,h,((Kp.refl w Nul).drew).alloc _,fun j b hj=>?_⟩;have h1:=World.alloc_heap_new w.drew (.cells (bytesRow ⟨t.toArray⟩ (grownCap w t.length 0 5)) 5 ((bytesRow ⟨t.toArray⟩ (grownCap w t.length 0 5)).size,(bytesRow ⟨t.toArray⟩ (grownCap w t.length 0 5)).size+1));have h2:∀X:World,X.heap[w.heap.size]? = some (.cells (bytesRow ⟨t.toArray⟩ (grownCap w t.length 0 5)) 5 ((bytesRow ⟨t.toArray⟩ (grownCap w t.length 0 5)).size,(bytesRow ⟨t.toArray⟩ (grownCap w t.length 0 5)).size+1))->X.cell? ⟨w.heap.size,j,none⟩=(bytesRow ⟨t.toArray⟩ (grownCap w t.length 0 5))[j]?:=fun X hX=>Lib.cell_of_heap hX j
 rw[h2 _ h1];unfold bytesRow;have hlt:j<t.length:=(List.getElem?_eq_some_iff.1 hj).1;rw[Array.getElem?_append_left (by simpa using hlt)];simp[hj]
theorem j6T:∀(l:List UInt8) (b:UInt8),unle (l++[b])=unle l+256^l.length*b.toNat
 | [],b=>by rw[List.nil_append,unle,unle,unle];simp
 | a::l,b=>by
  rw[List.cons_append,unle,unle,j6T l b,List.length_cons,Nat.pow_succ,Nat.mul_add];have:256^l.length*256*b.toNat=256*(256^l.length*b.toNat):=by rw[Nat.mul_comm (256^l.length) 256,Nat.mul_assoc]
  omega
theorem jBQ (a:List UInt8)(b:UInt8)(i:Nat)(ha:a.length=i)(hi:i<8):bits .or .u64 ((unle a:Nat):Int) (IntKind.u64.wrap (IntKind.u64.wrap (b.toNat:Int)*2^(8*i)))=((unle (a++[b]):Nat):Int):=by
 have hb:=b.toNat_lt;have hu:=j0s a;have e256:(256:Nat)^i=2^(8*i):=by rw[show (256:Nat)=2^8 from rfl,<- Nat.pow_mul]
 rw[ha,e256] at hu;have hp:(2:Nat)^(8*i)*256<=18446744073709551616:=by
  have h1:(2:Nat)^(8*i)*2^8=2^(8*i+8):=(Nat.pow_add 2 _ _).symm;have h2:(2:Nat)^(8*i+8)<=2^64:=Nat.pow_le_pow_right (by decide) (by omega);omega
 have hm:b.toNat*2^(8*i)<18446744073709551616:=by
  have h1:b.toNat*2^(8*i)<256*2^(8*i):=Nat.mul_lt_mul_of_pos_right (by omega) (Nat.two_pow_pos _);omega
 have hu2:unle a<18446744073709551616:=by omega
 have w1:IntKind.u64.wrap (b.toNat:Int)=((b.toNat:Nat):Int):=by rw[IntKind.wrap_u64];omega
 have w2:IntKind.u64.wrap (((b.toNat:Nat):Int)*2^(8*i))=((b.toNat*2^(8*i):Nat):Int):=by
  have e:(((b.toNat:Nat):Int)*2^(8*i))=((b.toNat*2^(8*i):Nat):Int):=by
   rw[Int.natCast_mul,Int.natCast_pow]
   rfl
  rw[e,IntKind.wrap_u64];omega
 rw[w1,w2,bits_or_u64_nat _ _ hu2 hm,j6T,ha,e256];have h3:=Nat.two_pow_add_eq_or_of_lt hu b.toNat;rw[Nat.or_comm,Nat.mul_comm b.toNat,<- h3]
 congr 1
 omega
theorem j0H (r:Nat)(l:List UInt8)(k:Int)(n:Nat)(w:World)(h:Rr w r l k)(hn:n<=8):
 Calls Tryz.prog 52 #[.pointer (some ⟨r,0,none⟩),.int .i64 n] w fun e w'=>RdP r w k ((rNum n l).map fun p=>(.int .u64 p.1,p.2)) e w':=by
 have H:Hid (Calls Tryz.prog 103 #[.pointer (some ⟨r,0,none⟩),.int .i64 n] w fun e w'=>RdP r w k (if n<=l.length then some (.string ⟨(l.take n).toArray⟩,l.drop n) else none) e w'):=j6N r l k n w h;unfold rNum;clear h;by_cases hq:n<=l.length
 ·rw[if_pos hq] at H ⊢;have HT:Hid ((l.take n).length=n):=by show _=_;rw[List.length_take];omega
  generalize l.take n=t at *;generalize l.drop n=d at *;go_enter Tryz.func52,Tryz.ntmps52;go_wp2_with fail;refine H.out.mono ?_;intro e w1 hr;cases hr with
  | ok h1 kp1=>
   have HB1:Hid (Rr w1 r d k):=h1;have HK1:Hid (Kp w w1 (fun i=>i=r)):=kp1;obtain⟨cap,w2,hcv,hk2,hc2⟩:=jDR t w1;have HK2:Hid (Kp w1 w2 Nul):=hk2;have HC2:Hid (∀j b,t[j]? = some b->w2.cell? ⟨w1.heap.size,j,none⟩=some (.int .u8 (UInt8.toNat b))):=hc2;rw[HT.out] at hcv;clear h1 kp1 H hk2 hc2;go_wp2_with fail;clear hcv;go_loopw[5,13] (fun s5 s13 wr=>∃i:Nat,i<=n/\s13=.int .i64 i/\s5=.int .u64 (unle (t.take i):Nat)/\wr=w2) (fun _ s13 _=>((n:Int)-RowKit.intOf s13).toNat)
   case atStart=>exact⟨0,Nat.zero_le _,by simp,by rw[List.take_zero];rfl,rfl⟩
   case round=>
    rename_i wr _ _
    obtain⟨i,hi,rfl,rfl,hwr⟩:=hrel;by_cases hlt:i<n
    ·obtain⟨b,hb⟩:∃b,t[i]? = some b:=⟨_,List.getElem?_eq_getElem (by rw[HT.out];exact hlt)⟩;have hlc:=HC2.out i b hb;have hlt':(i:Int)<(n:Int):=(by omega);have hi8:(i:Int)<=7:=(by omega);have HO:Hid (bits .or .u64 ((unle (t.take i):Nat):Int) (IntKind.u64.wrap (IntKind.u64.wrap (b.toNat:Int)*2^(8*i)))=((unle (t.take (i+1)):Nat):Int)):=by
      have h:=jBQ (t.take i) b i (by rw[List.length_take,HT.out];omega) (by omega);have e:t.take (i+1)=t.take i++[b]:=(by rw[List.take_add_one,hb];rfl);rw[<- e] at h;exact h
     go_wp2_with fail;exact⟨⟨i+1,by omega,by go_num,by rw[HO.out],by trivial⟩,by simp only[RowKit.intOf];omega⟩
    ·have hie:i=n:=(by omega);subst hie;subst hwr;have HF:Hid (RdP r w k ((some (unle t,d)).map fun p=>(Value.int .u64 (p.1:Nat),p.2)) (.returned (.int .u64 (unle (t.take i):Nat))) wr):=by
      have e:t.take i=t:=(by rw[<- HT.out,List.take_length]);rw[e];exact RdP.ok (HB1.out.kp HK2.out (fun x=>x)) (HK1.out.trans HK2.out.of_nul)
     go_wp2_with fail;refine bodyPost_ret (results_tmp rfl _ _ _) rfl ?_;exact HF.out
 ·rw[if_neg hq] at H ⊢;go_enter Tryz.func52,Tryz.ntmps52;go_wp2_with fail;refine H.out.mono ?_;intro e w1 hr;cases hr with
  | no kp1=>
   go_wp2_with fail;exact⟨rfl,RdP.no kp1⟩
theorem jAl:(ByteArray.mk D5.toArray).size=4:=rfl
theorem jBu (l:List UInt8)(w:World):
 Calls Tryz.prog 80 #[.string ⟨l.toArray⟩,.string ⟨D5.toArray⟩] w fun e w'=>e=.returned (.bool (decide (l.take 4=D5)))/\w'=w:=by
 have hsz:((ByteArray.mk l.toArray).size:Int)=(l.length:Int):=by show ((l.toArray.size:Nat):Int)=_;rw[List.size_toArray]
 have hms:((ByteArray.mk D5.toArray).size:Int)=4:=by rw[jAl];rfl
 obtain⟨m,hm⟩:∃m,ByteArray.mk D5.toArray=m:=⟨_,rfl⟩;rw[hm] at hms ⊢;by_cases hq:4<=l.length
 ·have hq':(4:Int)<=(l.length:Int):=by omega
  have HE:Hid ((((ByteArray.mk l.toArray).extract 0 4).toList==m.toList)=decide (l.take 4=D5)):=by
   show _=_;rw[j01,<- hm,ByteArray.toList_eq,ByteArray.toList_eq,Bool.eq_iff_iff];simp
  go_enter Tryz.func80,Tryz.ntmps80;go_wp2;refine bodyPost_ret (results_tmp rfl _ _ _) rfl ⟨?_,rfl⟩;show Ending.returned (.bool (((ByteArray.mk l.toArray).extract 0 4).toList==m.toList))=_;rw[HE.out]
 ·have hq':¬(4:Int)<=(l.length:Int):=by omega
  have HN:Hid (decide (l.take 4=D5)=false):=decide_eq_false (fun e=>by
   have:=congrArg List.length e;rw[List.length_take,show D5.length=4 from rfl] at this;omega)
  go_enter Tryz.func80,Tryz.ntmps80;go_wp2;refine bodyPost_ret (results_tmp rfl _ _ _) rfl ⟨?_,rfl⟩;show Ending.returned (.bool false)=_;rw[HN.out]
theorem jDv (p q:Addr)(w:World):
 CallsD Tryz.prog 131 #[.pointer (some p),.pointer (some q)] .returning w fun e u' w'=>e=.returned (.tuple #[])/\u'=.returning/\w'=w:=by
 refine callsD_of_wpS Tryz.func131 rfl fun c₀ cs hu=>?_
 apply wpS_seq
 apply wpS_region
 simp[wpOpsS,go_sem,recoverD,hu,Tryz.ntmps131,Exit.thenS];apply wpS_seq
 apply wpS_region
 simp[wpOpsS,go_sem,Exit.thenS];refine wpS_cond (t:=false) (by simp[Act.eval,Array.replicate]) ?_;simp only[Bool.false_eq_true,if_false];refine wpS_of_wp (wp_skip ?_);cases c₀
 simp_all[bodyPostS,results,Tryz.results131]
theorem jDP (X:TypeId)(w:World):(Instr.typeAssert (.iface 27 (.int .i64 3)) X 27 false).run Tryz.prog w=.ok (.int .i64 3) w:=by
 unfold Instr.typeAssert;simp[Sem.run_bind,run_underlying Tryz.underlying27]
theorem jDw (p q:Nat)(vp vq:Value)(older:List PanicEntry)(w:World){T1 T2:TypeId}(hp:Blk w p [vp] T1)(hq:Blk w q [vq] T2)(hne:p≠q):
 CallsD Tryz.prog 131 #[.pointer (some ⟨p,0,none⟩),.pointer (some ⟨q,0,none⟩)] (.panicking (ef++older)) w fun e u' w'=>
  e=.returned (.tuple #[])/\(∃v,u'=.panicking ({ v:=v,recovered:=true }::older))/\w'=((w.drew).setCell ⟨p,0,none⟩ (.pointer none)).setCell ⟨q,0,none⟩ (.int .i64 3):=by
 refine callsD_of_wpS Tryz.func131 rfl fun c₀ cs hu=>?_
 apply wpS_seq
 apply wpS_region
 simp[wpOpsS,go_sem,recoverD,hu,Tryz.ntmps131,Exit.thenS,ef];apply wpS_seq
 apply wpS_region
 simp[wpOpsS,go_sem,Exit.thenS];refine wpS_cond (t:=true) (by simp[Act.eval,Array.replicate]) ?_;simp only[if_true];refine wpS_of_wp ?_;refine j3I (fun _:World=>True) (fun _=>false) (by kernel_rfl) trivial (fun _=>?_);refine(show wpPh _ _ _ _ _ _ _ _ { tmps:=#[.pointer (some ⟨p,0,none⟩),.pointer (some ⟨q,0,none⟩),.iface 27 (.int .i64 3),.iface 27 (.int .i64 3),.iface 27 (.int .i64 3),.bool true,undef,undef],defers:=[] } w.drew from ?_);have c1:w.cell? ⟨p,0,none⟩=some vp:=hp.cell rfl;have f1:w.frozen? ⟨p,0,none⟩=false:=hp.froz 0;have c2:(w.setCell ⟨p,0,none⟩ (.pointer none)).cell? ⟨q,0,none⟩=some vq:=(hq.other _ _ (fun e=>hne e.symm)).cell rfl;have f2:(w.setCell ⟨p,0,none⟩ (.pointer none)).frozen? ⟨q,0,none⟩=false:=(hq.other _ _ (fun e=>hne e.symm)).froz 0;refine I8 (i:=0) (v:=.iface 27 (.int .i64 3)) (some 6) rfl rfl (by kernel_rfl) (fun _ _ _ h=>h) (Or.inl ⟨by rfl,fun w' _=>by go_simp⟩) trivial ?_
 simp only[Act.put,Sz0,Sz1,Sz2];have hta:=fun X w=>jDP X w
 refine I8 (i:=1) (v:=.int .i64 3) (some 7) rfl rfl (by kernel_rfl) (fun _ _ _ h=>h) (Or.inl ⟨by rfl,fun w' _=>by go_simp⟩) trivial ?_;simp only[Act.put,Sz0,Sz1,Sz2];refine L8 (i:=2) (by kernel_rfl) rfl rfl (fun K hK=>?_);go_simp;refine hK.out _ _ (fun _=>trivial) ?_;clear hK K;refine L8 (i:=3) (by kernel_rfl) rfl rfl (fun K hK=>?_);go_simp;refine hK.out _ _ (fun _=>trivial) ?_;clear hK K;refine Z4 (by kernel_rfl) ?_;simp[bodyPostS,results,Tryz.results131]
theorem jDz (R:Ending->World->Prop)(p q:Nat)(vp vq:Value){T1 T2:TypeId}(t0 t1:Value)(ts:List Value)(w:World)(hp:Blk w p [vp] T1)(hq:Blk w q [vq] T2)(hne:p≠q)
 (h:∀W,Kp w W (fun i=>i=p∨i=q)->R (.returned (.tuple #[.pointer none,.int .i64 3])) W) :
 bodyPostD Tryz.prog Tryz.f81 R (Exit.panic ef) { tmps:=(t0::t1 :: .pointer (some ⟨p,0,none⟩) :: .pointer (some ⟨q,0,none⟩)::ts).toArray,defers:=[{ target:=.fn (.func 131) #[.pointer (some ⟨p,0,none⟩),.pointer (some ⟨q,0,none⟩)],args:=#[] }] } w:=by
 refine leaves_cons (f:=131) (args:=#[.pointer (some ⟨p,0,none⟩),.pointer (some ⟨q,0,none⟩)]) (by simp) (by simp[go_sem]) ?_;refine(jDw p q _ _ [] w hp hq hne).mono ?_;rintro e u' w'' ⟨rfl,⟨v,rfl⟩,rfl⟩;have b1:Blk w.drew p [vp] T1:=hp;have b2:Blk w.drew q [vq] T2:=hq;have e1:=((b1.set 0 (.pointer none)).other ⟨q,0,none⟩ (.int .i64 3) hne).cell (i:=0) rfl;have e2:=((b2.other ⟨p,0,none⟩ (.pointer none) (Ne.symm hne)).set 0 (.int .i64 3)).cell (i:=0) rfl;have hk:=h _ ((((Kp.refl w (fun i=>i=p∨i=q)).drew).setCell ⟨p,0,none⟩ (.pointer none) (.inr (.inl rfl))).setCell ⟨q,0,none⟩ (.int .i64 3) (.inr (.inr rfl)));generalize ((w.drew.setCell ⟨p,0,none⟩ (.pointer none)).setCell ⟨q,0,none⟩ (.int .i64 3))=WW at *;simp[Leaves,settle,results,Tryz.results81,go_sem,e1,e2];exact hk
theorem jE0 (R:Ending->World->Prop)(p q:Nat)(vp vq:Value){T1 T2:TypeId}(t0 t1:Value)(ts:List Value)(w:World)(hp:Blk w p [vp] T1)(hq:Blk w q [vq] T2)
 (h:R (.returned (.tuple #[vp,vq])) w) :
 bodyPostD Tryz.prog Tryz.f81 R Exit.ret { tmps:=(t0::t1 :: .pointer (some ⟨p,0,none⟩) :: .pointer (some ⟨q,0,none⟩)::ts).toArray,defers:=[{ target:=.fn (.func 131) #[.pointer (some ⟨p,0,none⟩),.pointer (some ⟨q,0,none⟩)],args:=#[] }] } w:=by
 refine leaves_cons (f:=131) (args:=#[.pointer (some ⟨p,0,none⟩),.pointer (some ⟨q,0,none⟩)]) (by simp) (by simp[go_sem]) ?_;refine(jDv ⟨p,0,none⟩ ⟨q,0,none⟩ w).mono ?_;rintro e u' w'' ⟨rfl,rfl,rfl⟩;have e1:=hp.cell (i:=0) rfl;have e2:=hq.cell (i:=0) rfl;simp[Leaves,settle,results,Tryz.results81,go_sem,e1,e2];exact h
end
end Go.Proofs.YtnceajanlnnfoaaGreatDoor
