/-UTF-8 as the document reads it, over lists of bytes: the same as the m. -/
import Derived.Test.YtecjfnkakodebaaGreatDoorRmQa
import Derived.Lib.ValidLaws
open Go.Proofs.Tryz
open Go.Value renaming int->O,bool->E,slice->U,string->aq
open Go.IntKind renaming i64->I
open Bool renaming false->R,true->J
open Option renaming some->H,none->G
open Go.Ending renaming returned->Q
set_option maxHeartbeats 8000000
set_option maxRecDepth 20000
namespace Go.Proofs.YtecjfnkakodebaaGreatDoor
open Go.RowKit Go.Lib
def acc (B:Nat->Nat) (c0:Int):Nat->Int
 | 0=>c0
 | j+1=>acc B c0 j*64+(B (j+1):Int)-128
def Lead (b0 m:Nat) (least c0:Int):Prop:=(m=0/\b0<128/\least=0/\c0=b0)∨(m=1/\194<=b0/\b0<224/\least=128/\c0=(b0:Int)-192)∨(m=2/\224<=b0/\b0<240/\least=2048/\c0=(b0:Int)-224)∨(m=3/\240<=b0/\b0<245/\least=65536/\c0=(b0:Int)-240)
def Cont (n:Nat) (B:Nat->Nat) (t:Nat):Prop:=t<n/\128<=B t/\B t<=191
def Bad (least v:Int):Prop:=v<least∨1114111<v∨(55296<=v/\v<57344)
theorem jAl {n b0 m:Nat}{least c0:Int}{B:Nat->Nat}(h:Lead b0 m least c0){t:Nat}(h1:1<=t)(ht:t<=m)(hB:∀t,B t<256)(hn:¬Cont n B t):decodeN n b0 (B 1) (B 2) (B 3)=(65533,1):=by
 have b1:=hB 1;have b2:=hB 2;have b3:=hB 3;unfold Cont at hn;unfold decodeN;rcases h with h|h|h|h
 ·omega
 ·have:t=1:=by omega
  subst this;rw[if_neg (by omega),if_neg (by omega),if_neg (by omega),if_neg (by omega)]
 ·rcases(show t=1∨t=2 by omega) with rfl|rfl;all_goals rw[if_neg (by omega),if_neg (by omega),if_neg (by omega),if_neg (by omega)]
 ·rcases(show t=1∨t=2∨t=3 by omega) with rfl|rfl|rfl;all_goals rw[if_neg (by omega),if_neg (by omega),if_neg (by omega),if_neg (by omega)]
theorem jAk {n b0 m:Nat}{least c0:Int}{B:Nat->Nat}(h:Lead b0 m least c0)(hm:1<=m)(hc:∀t,1<=t->t<=m->Cont n B t)(hb:Bad least (acc B c0 m)):decodeN n b0 (B 1) (B 2) (B 3)=(65533,1):=by
 unfold Cont at hc;unfold Bad at hb;unfold decodeN;rcases h with h|⟨rfl,h⟩|⟨rfl,h⟩|⟨rfl,h⟩
 ·omega
 ·have c1:=hc 1 (by omega) (by omega);simp only[acc,Nat.zero_add] at hb;rw[if_neg (by omega),if_pos (by omega),if_neg (by omega)]
 ·have c1:=hc 1 (by omega) (by omega);have c2:=hc 2 (by omega) (by omega);simp only[acc,Nat.zero_add,Nat.reduceAdd] at hb;rw[if_neg (by omega),if_neg (by omega),if_pos (by omega),if_neg (by omega)]
 ·have c1:=hc 1 (by omega) (by omega);have c2:=hc 2 (by omega) (by omega);have c3:=hc 3 (by omega) (by omega);simp only[acc,Nat.zero_add,Nat.reduceAdd] at hb;rw[if_neg (by omega),if_neg (by omega),if_neg (by omega),if_pos (by omega),if_neg (by omega)]
theorem jAn {n b0 m:Nat}{least c0:Int}{B:Nat->Nat}(h:Lead b0 m least c0)(hc:∀t,1<=t->t<=m->Cont n B t)(hb:¬Bad least (acc B c0 m)):(decodeN n b0 (B 1) (B 2) (B 3)).2=m+1/\¬((decodeN n b0 (B 1) (B 2) (B 3)).1=65533/\(decodeN n b0 (B 1) (B 2) (B 3)).2=1):=by
 unfold Cont at hc;unfold Bad at hb;unfold decodeN;rcases h with ⟨rfl,h⟩|⟨rfl,h⟩|⟨rfl,h⟩|⟨rfl,h⟩
 ·rw[if_pos (by omega)];exact⟨rfl,by simp;omega⟩
 ·have c1:=hc 1 (by omega) (by omega);simp only[acc,Nat.zero_add] at hb;rw[if_neg (by omega),if_pos (by omega),if_pos (by omega)];exact⟨rfl,by simp⟩
 ·have c1:=hc 1 (by omega) (by omega);have c2:=hc 2 (by omega) (by omega);simp only[acc,Nat.zero_add,Nat.reduceAdd] at hb;rw[if_neg (by omega),if_neg (by omega),if_pos (by omega),if_pos (by omega)];exact⟨rfl,by simp⟩
 ·have c1:=hc 1 (by omega) (by omega);have c2:=hc 2 (by omega) (by omega);have c3:=hc 3 (by omega) (by omega);simp only[acc,Nat.zero_add,Nat.reduceAdd] at hb;rw[if_neg (by omega),if_neg (by omega),if_neg (by omega),if_pos (by omega),if_pos (by omega)];exact⟨rfl,by simp⟩
theorem jAm {n b0 b1 b2 b3:Nat}(h:(128<=b0/\b0<194)∨(245<=b0/\b0<256)):decodeN n b0 b1 b2 b3=(65533,1):=decodeN_bad n b0 b1 b2 b3 h
def byt (l:List UInt8) (p t:Nat):Nat:=(l.getD (p+t) 0).toNat
theorem j0d (l:List UInt8)(p t:Nat):byt l p t<256:=UInt8.toNat_lt _
theorem j2f {l:List UInt8}{p:Nat}(hp:p<l.length):validD (l.drop p)=if (decodeN (l.length-p) (byt l p 0) (byt l p 1) (byt l p 2) (byt l p 3)).1=65533/\(decodeN (l.length-p) (byt l p 0) (byt l p 1) (byt l p 2) (byt l p 3)).2=1 then R else validD (l.drop (p+(decodeN (l.length-p) (byt l p 0) (byt l p 1) (byt l p 2) (byt l p 3)).2)):=by
 have hne:l.drop p≠[]:=by rw[Ne,List.drop_eq_nil_iff];omega
 have hg:∀t,(l.drop p).getD t 0=l.getD (p+t) 0:=fun t=>by simp[List.getD_eq_getElem?_getD,List.getElem?_drop]
 rw[validD_step _ hne,decodeL_N,List.length_drop,hg,hg,hg,hg,List.drop_drop]
 rfl
theorem j2e {l:List UInt8}{p m t:Nat}{least c0:Int}(hp:p<l.length)(h:Lead (byt l p 0) m least c0)(h1:1<=t)(ht:t<=m)(hn:¬Cont (l.length-p) (byt l p) t):validD (l.drop p)=R:=by
 rw[j2f hp,jAl h h1 ht (j0d l p) hn];simp
theorem j3x {l:List UInt8}{p m:Nat}{least c0:Int}(hp:p<l.length)(h:Lead (byt l p 0) m least c0)(hm:1<=m)(hc:∀t,1<=t->t<=m->Cont (l.length-p) (byt l p) t)(hb:Bad least (acc (byt l p) c0 m)):validD (l.drop p)=R:=by
 rw[j2f hp,jAk h hm hc hb];simp
theorem u_ok {l:List UInt8}{p m:Nat}{least c0:Int}(hp:p<l.length)(h:Lead (byt l p 0) m least c0)(hc:∀t,1<=t->t<=m->Cont (l.length-p) (byt l p) t)(hb:¬Bad least (acc (byt l p) c0 m)):validD (l.drop p)=validD (l.drop (p+m+1)):=by
 obtain⟨h1,h2⟩:=jAn h hc hb;rw[j2f hp,if_neg h2,h1,Nat.add_assoc]
theorem j7K {l:List UInt8}{p:Nat}(hp:p<l.length)(h:(128<=byt l p 0/\byt l p 0<194)∨245<=byt l p 0):validD (l.drop p)=R:=by
 have:=j0d l p 0;rw[j2f hp,jAm (by omega)];simp
theorem j1b {n:Nat}{B:Nat->Nat}{c0:Int}(h0:0<=c0)(h1:c0<=255):∀ {j:Nat},j<=3->(∀t,1<=t->t<=j->Cont n B t)->0<=acc B c0 j/\acc B c0 j<=67108863:=by
 intro j hj hc;unfold Cont at hc;rcases(show j=0∨j=1∨j=2∨j=3 by omega) with rfl|rfl|rfl|rfl
 ·simp only[acc];omega
 ·have c1:=hc 1 (by omega) (by omega);simp only[acc,Nat.zero_add];omega
 ·have c1:=hc 1 (by omega) (by omega);have c2:=hc 2 (by omega) (by omega);simp only[acc,Nat.zero_add,Nat.reduceAdd];omega
 ·have c1:=hc 1 (by omega) (by omega);have c2:=hc 2 (by omega) (by omega);have c3:=hc 3 (by omega) (by omega);simp only[acc,Nat.zero_add,Nat.reduceAdd];omega
theorem j1e {l:List UInt8}{p t:Nat}(h:p+t<(ByteArray.mk l.toArray).size):((ByteArray.mk l.toArray)[p+t]'h).toNat=byt l p t:=by
 have h':p+t<l.length:=by simpa [ByteArray.size] using h
 unfold byt;rw[List.getD_eq_getElem?_getD,List.getElem?_eq_getElem h']
 rfl
theorem jEU (l:List UInt8)(hl:l.length<=4611686018427387904)(w:World):
 Calls prog 123 #[aq ⟨l.toArray⟩] w fun e w'=>e=Q (E (validD l))/\w'=w:=by
 obtain⟨ANS,hA⟩:=e_ (validD l);rw[hA];have HA:=h_ hA;have hsz:(ByteArray.mk l.toArray).size=l.length:=by simp[ByteArray.size]
 obtain⟨n,hn⟩:=e_ l.length;have HN:=h_ hn;have HL:Hid (n<=4611686018427387904):=by show _<=_;omega
 rw[hn] at hsz;clear hA hl hn;go_enter func123,ntmps123;go_wp2_with fail;go_loopw[3] (fun i wr=>wr=w/\∃p:Nat,i=O I p/\p<=n/\validD (l.drop p)=ANS) (fun i _=>n-(RowKit.intOf i).toNat)
 case atStart=>exact⟨rfl,0,rfl,Nat.zero_le _,HA.o⟩
 case round=>
  clear HA;obtain⟨rfl,p,rfl,hp,h3'⟩:=hrel;by_cases hpn:p<n
  ·have j1:(p:Int)<(n:Int):=(by omega);have j0:(0:Int)<=(p:Int):=(by omega);have hpl:p<l.length:=(by rw[HN.o];exact hpn);obtain⟨b0,hb0⟩:=e_ (byt l p 0);have hb256:b0<256:=(by rw[<- hb0];exact j0d l p 0);have hps:p<(ByteArray.mk l.toArray).size:=(by rw[hsz];exact hpn);have hg0:((ByteArray.mk l.toArray)[p]'hps).toNat=b0:=(by rw[<- hb0];exact j1e (t:=0) hps);by_cases c0:b0<128
   ·have i0:(b0:Int)<128:=(by omega);have HLd:Hid (Lead (byt l p 0) 0 0 ((b0:Int))):=by
     show Lead _ _ _ _;rw[hb0];unfold Lead;omega
    have HNo:Hid (∀t,1<=t->t<=0->¬Cont (n-p) (byt l p) t->ANS=R):=fun t h1 h2 h3=>by
     have:=j2e hpl HLd.o h1 h2 (by rw[HN.o];exact h3);rw[<- h3',this]
    have HOk:Hid ((∀t,1<=t->t<=0->Cont (n-p) (byt l p) t)->¬Bad 0 (acc (byt l p) ((b0:Int)) 0)->validD (l.drop (p+0+1))=ANS):=fun h1 h2=>by
     have:=u_ok hpl HLd.o (by rw[HN.o];exact h1) h2;rw[<- this,h3']
    clear hb0 h3' HLd;go_wp2_with fail;go_loopw[4,7] (fun c k wi=>wi=wr/\∃j:Nat,k=O I ((j:Int)+1)/\c=O I (acc (byt l p) ((b0:Int)) j)/\j<=0/\∀t,1<=t->t<=j->Cont (n-p) (byt l p) t) (fun _ k _=>0+1-(RowKit.intOf k).toNat)
    case atStart=>exact⟨rfl,0,rfl,rfl,Nat.zero_le _,fun t h1 h2=>by omega⟩
    case round=>
     obtain⟨rfl,j,rfl,rfl,hj,hct⟩:=hrel;have HCT:=h_ hct;obtain⟨bd0,bd1⟩:=j1b (c0:=(b0:Int)) (by omega) (by omega) (show j<=3 by omega) hct;clear hct;have HP:=h_ hpn;have hje:j=0:=(by omega);subst hje;have HE:=h_ (HOk.o HCT.o (by unfold Bad;simp only[acc];omega));have kp:(p:Int)+1<=9223372036854775807:=(by have:=HL.o;omega);have hacc:acc (byt l p) (b0:Int) 0=(b0:Int):=rfl;rw[hacc];have q1:¬(b0:Int)<0:=(by omega);have q2:¬(1114111:Int)<(b0:Int):=(by omega);have q3:¬(55296:Int)<=(b0:Int):=(by omega);have q3b:decide ((55296:Int)<=(b0:Int))=R:=(by simp;omega);clear HOk HNo HCT hacc bd0 bd1;go_wp2_with fail;go_roundw
     case rel=>exact⟨trivial,p+0+1,by go_num,by have:=HP.o;omega,HE.o⟩
     case measure=>simp only[RowKit.intOf];have:=HP.o;omega
   ·have i0:¬(b0:Int)<128:=(by omega);by_cases c1:194<=b0
    ·have i1:(194:Int)<=(b0:Int):=(by omega);by_cases c2:b0<224
     ·have i2:(b0:Int)<224:=(by omega);have HLd:Hid (Lead (byt l p 0) 1 128 ((b0:Int)-192)):=by
       show Lead _ _ _ _;rw[hb0];unfold Lead;omega
      have HNo:Hid (∀t,1<=t->t<=1->¬Cont (n-p) (byt l p) t->ANS=R):=fun t h1 h2 h3=>by
       have:=j2e hpl HLd.o h1 h2 (by rw[HN.o];exact h3);rw[<- h3',this]
      have HOk:Hid ((∀t,1<=t->t<=1->Cont (n-p) (byt l p) t)->¬Bad 128 (acc (byt l p) ((b0:Int)-192) 1)->validD (l.drop (p+1+1))=ANS):=fun h1 h2=>by
       have:=u_ok hpl HLd.o (by rw[HN.o];exact h1) h2;rw[<- this,h3']
      have HBd:Hid ((∀t,1<=t->t<=1->Cont (n-p) (byt l p) t)->Bad 128 (acc (byt l p) ((b0:Int)-192) 1)->ANS=R):=fun h1 h2=>by
       have:=j3x hpl HLd.o (by omega) (by rw[HN.o];exact h1) h2;rw[<- h3',this]
      clear hb0 h3' HLd;go_wp2_with fail;go_loopw[4,7] (fun c k wi=>wi=wr/\∃j:Nat,k=O I ((j:Int)+1)/\c=O I (acc (byt l p) ((b0:Int)-192) j)/\j<=1/\∀t,1<=t->t<=j->Cont (n-p) (byt l p) t) (fun _ k _=>1+1-(RowKit.intOf k).toNat)
      case atStart=>exact⟨rfl,0,rfl,rfl,Nat.zero_le _,fun t h1 h2=>by omega⟩
      case round=>
       obtain⟨rfl,j,rfl,rfl,hj,hct⟩:=hrel;have HCT:=h_ hct;obtain⟨bd0,bd1⟩:=j1b (c0:=(b0:Int)-192) (by omega) (by omega) (show j<=3 by omega) hct;clear hct;have HP:=h_ hpn;by_cases hjm:j<1
       ·have k1:(j:Int)+1<=1:=(by omega);have k2:(p:Int)+((j:Int)+1)<=9223372036854775807:=(by have:=HL.o;omega);by_cases hin:p+(j+1)<n
        ·have k3:¬(n:Int)<=(p:Int)+((j:Int)+1):=(by omega);have k3b:(p:Int)+((j:Int)+1)<(n:Int):=(by omega);have k3c:(0:Int)<=(p:Int)+((j:Int)+1):=(by omega);have hqs:p+(j+1)<(ByteArray.mk l.toArray).size:=(by rw[hsz];exact hin);have hq0:((ByteArray.mk l.toArray)[p+(j+1)]'hqs).toNat=byt l p (j+1):=j1e hqs;have hacc:Hid (acc (byt l p) ((b0:Int)-192) (j+1)=acc (byt l p) ((b0:Int)-192) j*64+(byt l p (j+1):Int)-128):=rfl;have hbl:=j0d l p (j+1);have HCj:Hid (128<=byt l p (j+1)->byt l p (j+1)<=191->∀t,1<=t->t<=j+1->Cont (n-p) (byt l p) t):=fun h1 h2 t h3 h4=>by
          rcases Nat.lt_or_ge t (j+1) with g|g
          ·exact HCT.o t h3 (by omega)
          ·have e:t=j+1:=(by omega);subst e;exact⟨by omega,h1,h2⟩
         have HNj:=(h_ fun (h:byt l p (j+1)<128∨191<byt l p (j+1))=>HNo.o (j+1) (by omega) (by omega) (fun q=>by obtain⟨_,q1,q2⟩:=q;omega));generalize hbj:byt l p (j+1)=bj at *;generalize hv:acc (byt l p) ((b0:Int)-192) j=v at *;have htn:((p:Int)+((j:Int)+1)).toNat=p+(j+1):=(by omega);clear hbj hv HCT;by_cases lo:bj<128
         ·have lo':(bj:Int)<128:=(by omega);have HE:Hid (ANS=R):=HNj.o (.inl lo);clear HNj HCj;go_wp21;go_ret;exact⟨j4 HE.o.symm,rfl⟩
         ·have lo':¬(bj:Int)<128:=(by omega);by_cases hi:191<bj
          ·have hi':(191:Int)<(bj:Int):=(by omega);have HE:Hid (ANS=R):=HNj.o (.inr hi);clear HNj HCj;go_wp21;go_ret;exact⟨j4 HE.o.symm,rfl⟩
          ·have hi':¬(191:Int)<(bj:Int):=(by omega);have HCk:=h_ (HCj.o (by omega) (by omega));clear HNj HCj;go_wp2_with fail;go_roundw
           case rel=>exact⟨trivial,j+1,by go_num,by rw[hacc.o],by omega,HCk.o⟩
           case measure=>simp only[RowKit.intOf];omega
        ·have HE:=h_ (HNo.o (j+1) (by omega) (by omega) (fun q=>by have:=q.1;omega));have k3:(n:Int)<=(p:Int)+((j:Int)+1):=(by omega);generalize acc (byt l p) ((b0:Int)-192) j=v at *;go_wp21;go_ret;exact⟨j4 HE.o.symm,rfl⟩
       ·have hje:j=1:=(by omega);subst hje;have HPn:Hid (p+1+1<=n):=by
         have:=(HCT.o 1 (by omega) (by omega)).1;show _<=_;omega
        have HY:=h_ (HBd.o HCT.o);have HZ:=h_ (HOk.o HCT.o);have kp:(p:Int)+1+1<=9223372036854775807:=(by have:=HL.o;omega);generalize acc (byt l p) ((b0:Int)-192) 1=v at *;clear HBd HOk HNo HCT;by_cases q1:v<128
        ·have HE:Hid (ANS=R):=HY.o (.inl q1);clear HY HZ;go_wp21;go_ret;exact⟨j4 HE.o.symm,rfl⟩
        ·by_cases q2:1114111<v
         ·have HE:Hid (ANS=R):=HY.o (.inr (.inl q2));clear HY HZ;go_wp21;go_ret;exact⟨j4 HE.o.symm,rfl⟩
         ·by_cases q3:55296<=v
          ·by_cases q4:v<57344
           ·have HE:Hid (ANS=R):=HY.o (.inr (.inr ⟨q3,q4⟩));clear HY HZ;go_wp21;go_ret;exact⟨j4 HE.o.symm,rfl⟩
           ·have HE:=h_ (HZ.o (by unfold Bad;omega));clear HY HZ;go_wp2_with fail;go_roundw
            case rel=>exact⟨trivial,p+1+1,by go_num,HPn.o,HE.o⟩
            case measure=>simp only[RowKit.intOf];have:=HP.o;omega
          ·have HE:=h_ (HZ.o (by unfold Bad;omega));have q3b:decide ((55296:Int)<=v)=R:=(by simp;omega);clear HY HZ;go_wp2_with fail;go_roundw
           case rel=>exact⟨trivial,p+1+1,by go_num,HPn.o,HE.o⟩
           case measure=>simp only[RowKit.intOf];have:=HP.o;omega
     ·have i2:¬(b0:Int)<224:=(by omega);have i2b:(224:Int)<=(b0:Int):=(by omega);by_cases c3:b0<240
      ·have i3:(b0:Int)<240:=(by omega);have HLd:Hid (Lead (byt l p 0) 2 2048 ((b0:Int)-224)):=by
        show Lead _ _ _ _;rw[hb0];unfold Lead;omega
       have HNo:Hid (∀t,1<=t->t<=2->¬Cont (n-p) (byt l p) t->ANS=R):=fun t h1 h2 h3=>by
        have:=j2e hpl HLd.o h1 h2 (by rw[HN.o];exact h3);rw[<- h3',this]
       have HOk:Hid ((∀t,1<=t->t<=2->Cont (n-p) (byt l p) t)->¬Bad 2048 (acc (byt l p) ((b0:Int)-224) 2)->validD (l.drop (p+2+1))=ANS):=fun h1 h2=>by
        have:=u_ok hpl HLd.o (by rw[HN.o];exact h1) h2;rw[<- this,h3']
       have HBd:Hid ((∀t,1<=t->t<=2->Cont (n-p) (byt l p) t)->Bad 2048 (acc (byt l p) ((b0:Int)-224) 2)->ANS=R):=fun h1 h2=>by
        have:=j3x hpl HLd.o (by omega) (by rw[HN.o];exact h1) h2;rw[<- h3',this]
       clear hb0 h3' HLd;go_wp2_with fail;go_loopw[4,7] (fun c k wi=>wi=wr/\∃j:Nat,k=O I ((j:Int)+1)/\c=O I (acc (byt l p) ((b0:Int)-224) j)/\j<=2/\∀t,1<=t->t<=j->Cont (n-p) (byt l p) t) (fun _ k _=>2+1-(RowKit.intOf k).toNat)
       case atStart=>exact⟨rfl,0,rfl,rfl,Nat.zero_le _,fun t h1 h2=>by omega⟩
       case round=>
        obtain⟨rfl,j,rfl,rfl,hj,hct⟩:=hrel;have HCT:=h_ hct;obtain⟨bd0,bd1⟩:=j1b (c0:=(b0:Int)-224) (by omega) (by omega) (show j<=3 by omega) hct;clear hct;have HP:=h_ hpn;by_cases hjm:j<2
        ·have k1:(j:Int)+1<=2:=(by omega);have k2:(p:Int)+((j:Int)+1)<=9223372036854775807:=(by have:=HL.o;omega);by_cases hin:p+(j+1)<n
         ·have k3:¬(n:Int)<=(p:Int)+((j:Int)+1):=(by omega);have k3b:(p:Int)+((j:Int)+1)<(n:Int):=(by omega);have k3c:(0:Int)<=(p:Int)+((j:Int)+1):=(by omega);have hqs:p+(j+1)<(ByteArray.mk l.toArray).size:=(by rw[hsz];exact hin);have hq0:((ByteArray.mk l.toArray)[p+(j+1)]'hqs).toNat=byt l p (j+1):=j1e hqs;have hacc:Hid (acc (byt l p) ((b0:Int)-224) (j+1)=acc (byt l p) ((b0:Int)-224) j*64+(byt l p (j+1):Int)-128):=rfl;have hbl:=j0d l p (j+1);have HCj:Hid (128<=byt l p (j+1)->byt l p (j+1)<=191->∀t,1<=t->t<=j+1->Cont (n-p) (byt l p) t):=fun h1 h2 t h3 h4=>by
           rcases Nat.lt_or_ge t (j+1) with g|g
           ·exact HCT.o t h3 (by omega)
           ·have e:t=j+1:=(by omega);subst e;exact⟨by omega,h1,h2⟩
          have HNj:=(h_ fun (h:byt l p (j+1)<128∨191<byt l p (j+1))=>HNo.o (j+1) (by omega) (by omega) (fun q=>by obtain⟨_,q1,q2⟩:=q;omega));generalize hbj:byt l p (j+1)=bj at *;generalize hv:acc (byt l p) ((b0:Int)-224) j=v at *;have htn:((p:Int)+((j:Int)+1)).toNat=p+(j+1):=(by omega);clear hbj hv HCT;by_cases lo:bj<128
          ·have lo':(bj:Int)<128:=(by omega);have HE:Hid (ANS=R):=HNj.o (.inl lo);clear HNj HCj;go_wp21;go_ret;exact⟨j4 HE.o.symm,rfl⟩
          ·have lo':¬(bj:Int)<128:=(by omega);by_cases hi:191<bj
           ·have hi':(191:Int)<(bj:Int):=(by omega);have HE:Hid (ANS=R):=HNj.o (.inr hi);clear HNj HCj;go_wp21;go_ret;exact⟨j4 HE.o.symm,rfl⟩
           ·have hi':¬(191:Int)<(bj:Int):=(by omega);have HCk:=h_ (HCj.o (by omega) (by omega));clear HNj HCj;go_wp2_with fail;go_roundw
            case rel=>exact⟨trivial,j+1,by go_num,by rw[hacc.o],by omega,HCk.o⟩
            case measure=>simp only[RowKit.intOf];omega
         ·have HE:=h_ (HNo.o (j+1) (by omega) (by omega) (fun q=>by have:=q.1;omega));have k3:(n:Int)<=(p:Int)+((j:Int)+1):=(by omega);generalize acc (byt l p) ((b0:Int)-224) j=v at *;go_wp21;go_ret;exact⟨j4 HE.o.symm,rfl⟩
        ·have hje:j=2:=(by omega);subst hje;have HPn:Hid (p+2+1<=n):=by
          have:=(HCT.o 2 (by omega) (by omega)).1;show _<=_;omega
         have HY:=h_ (HBd.o HCT.o);have HZ:=h_ (HOk.o HCT.o);have kp:(p:Int)+1+2<=9223372036854775807:=(by have:=HL.o;omega);generalize acc (byt l p) ((b0:Int)-224) 2=v at *;clear HBd HOk HNo HCT;by_cases q1:v<2048
         ·have HE:Hid (ANS=R):=HY.o (.inl q1);clear HY HZ;go_wp21;go_ret;exact⟨j4 HE.o.symm,rfl⟩
         ·by_cases q2:1114111<v
          ·have HE:Hid (ANS=R):=HY.o (.inr (.inl q2));clear HY HZ;go_wp21;go_ret;exact⟨j4 HE.o.symm,rfl⟩
          ·by_cases q3:55296<=v
           ·by_cases q4:v<57344
            ·have HE:Hid (ANS=R):=HY.o (.inr (.inr ⟨q3,q4⟩));clear HY HZ;go_wp21;go_ret;exact⟨j4 HE.o.symm,rfl⟩
            ·have HE:=h_ (HZ.o (by unfold Bad;omega));clear HY HZ;go_wp2_with fail;go_roundw
             case rel=>exact⟨trivial,p+2+1,by go_num,HPn.o,HE.o⟩
             case measure=>simp only[RowKit.intOf];have:=HP.o;omega
           ·have HE:=h_ (HZ.o (by unfold Bad;omega));have q3b:decide ((55296:Int)<=v)=R:=(by simp;omega);clear HY HZ;go_wp2_with fail;go_roundw
            case rel=>exact⟨trivial,p+2+1,by go_num,HPn.o,HE.o⟩
            case measure=>simp only[RowKit.intOf];have:=HP.o;omega
      ·have i3:¬(b0:Int)<240:=(by omega);have i3b:(240:Int)<=(b0:Int):=(by omega);by_cases c4:b0<245
       ·have i4:(b0:Int)<245:=(by omega);have HLd:Hid (Lead (byt l p 0) 3 65536 ((b0:Int)-240)):=by
         show Lead _ _ _ _;rw[hb0];unfold Lead;omega
        have HNo:Hid (∀t,1<=t->t<=3->¬Cont (n-p) (byt l p) t->ANS=R):=fun t h1 h2 h3=>by
         have:=j2e hpl HLd.o h1 h2 (by rw[HN.o];exact h3);rw[<- h3',this]
        have HOk:Hid ((∀t,1<=t->t<=3->Cont (n-p) (byt l p) t)->¬Bad 65536 (acc (byt l p) ((b0:Int)-240) 3)->validD (l.drop (p+3+1))=ANS):=fun h1 h2=>by
         have:=u_ok hpl HLd.o (by rw[HN.o];exact h1) h2;rw[<- this,h3']
        have HBd:Hid ((∀t,1<=t->t<=3->Cont (n-p) (byt l p) t)->Bad 65536 (acc (byt l p) ((b0:Int)-240) 3)->ANS=R):=fun h1 h2=>by
         have:=j3x hpl HLd.o (by omega) (by rw[HN.o];exact h1) h2;rw[<- h3',this]
        clear hb0 h3' HLd;go_wp2_with fail;go_loopw[4,7] (fun c k wi=>wi=wr/\∃j:Nat,k=O I ((j:Int)+1)/\c=O I (acc (byt l p) ((b0:Int)-240) j)/\j<=3/\∀t,1<=t->t<=j->Cont (n-p) (byt l p) t) (fun _ k _=>3+1-(RowKit.intOf k).toNat)
        case atStart=>exact⟨rfl,0,rfl,rfl,Nat.zero_le _,fun t h1 h2=>by omega⟩
        case round=>
         obtain⟨rfl,j,rfl,rfl,hj,hct⟩:=hrel;have HCT:=h_ hct;obtain⟨bd0,bd1⟩:=j1b (c0:=(b0:Int)-240) (by omega) (by omega) (show j<=3 by omega) hct;clear hct;have HP:=h_ hpn;by_cases hjm:j<3
         ·have k1:(j:Int)+1<=3:=(by omega);have k2:(p:Int)+((j:Int)+1)<=9223372036854775807:=(by have:=HL.o;omega);by_cases hin:p+(j+1)<n
          ·have k3:¬(n:Int)<=(p:Int)+((j:Int)+1):=(by omega);have k3b:(p:Int)+((j:Int)+1)<(n:Int):=(by omega);have k3c:(0:Int)<=(p:Int)+((j:Int)+1):=(by omega);have hqs:p+(j+1)<(ByteArray.mk l.toArray).size:=(by rw[hsz];exact hin);have hq0:((ByteArray.mk l.toArray)[p+(j+1)]'hqs).toNat=byt l p (j+1):=j1e hqs;have hacc:Hid (acc (byt l p) ((b0:Int)-240) (j+1)=acc (byt l p) ((b0:Int)-240) j*64+(byt l p (j+1):Int)-128):=rfl;have hbl:=j0d l p (j+1);have HCj:Hid (128<=byt l p (j+1)->byt l p (j+1)<=191->∀t,1<=t->t<=j+1->Cont (n-p) (byt l p) t):=fun h1 h2 t h3 h4=>by
            rcases Nat.lt_or_ge t (j+1) with g|g
            ·exact HCT.o t h3 (by omega)
            ·have e:t=j+1:=(by omega);subst e;exact⟨by omega,h1,h2⟩
           have HNj:=(h_ fun (h:byt l p (j+1)<128∨191<byt l p (j+1))=>HNo.o (j+1) (by omega) (by omega) (fun q=>by obtain⟨_,q1,q2⟩:=q;omega));generalize hbj:byt l p (j+1)=bj at *;generalize hv:acc (byt l p) ((b0:Int)-240) j=v at *;have htn:((p:Int)+((j:Int)+1)).toNat=p+(j+1):=(by omega);clear hbj hv HCT;by_cases lo:bj<128
           ·have lo':(bj:Int)<128:=(by omega);have HE:Hid (ANS=R):=HNj.o (.inl lo);clear HNj HCj;go_wp21;go_ret;exact⟨j4 HE.o.symm,rfl⟩
           ·have lo':¬(bj:Int)<128:=(by omega);by_cases hi:191<bj
            ·have hi':(191:Int)<(bj:Int):=(by omega);have HE:Hid (ANS=R):=HNj.o (.inr hi);clear HNj HCj;go_wp21;go_ret;exact⟨j4 HE.o.symm,rfl⟩
            ·have hi':¬(191:Int)<(bj:Int):=(by omega);have HCk:=h_ (HCj.o (by omega) (by omega));clear HNj HCj;go_wp2_with fail;go_roundw
             case rel=>exact⟨trivial,j+1,by go_num,by rw[hacc.o],by omega,HCk.o⟩
             case measure=>simp only[RowKit.intOf];omega
          ·have HE:=h_ (HNo.o (j+1) (by omega) (by omega) (fun q=>by have:=q.1;omega));have k3:(n:Int)<=(p:Int)+((j:Int)+1):=(by omega);generalize acc (byt l p) ((b0:Int)-240) j=v at *;go_wp21;go_ret;exact⟨j4 HE.o.symm,rfl⟩
         ·have hje:j=3:=(by omega);subst hje;have HPn:Hid (p+3+1<=n):=by
           have:=(HCT.o 3 (by omega) (by omega)).1;show _<=_;omega
          have HY:=h_ (HBd.o HCT.o);have HZ:=h_ (HOk.o HCT.o);have kp:(p:Int)+1+3<=9223372036854775807:=(by have:=HL.o;omega);generalize acc (byt l p) ((b0:Int)-240) 3=v at *;clear HBd HOk HNo HCT;by_cases q1:v<65536
          ·have HE:Hid (ANS=R):=HY.o (.inl q1);clear HY HZ;go_wp21;go_ret;exact⟨j4 HE.o.symm,rfl⟩
          ·by_cases q2:1114111<v
           ·have HE:Hid (ANS=R):=HY.o (.inr (.inl q2));clear HY HZ;go_wp21;go_ret;exact⟨j4 HE.o.symm,rfl⟩
           ·by_cases q3:55296<=v
            ·by_cases q4:v<57344
             ·have HE:Hid (ANS=R):=HY.o (.inr (.inr ⟨q3,q4⟩));clear HY HZ;go_wp21;go_ret;exact⟨j4 HE.o.symm,rfl⟩
             ·have HE:=h_ (HZ.o (by unfold Bad;omega));clear HY HZ;go_wp2_with fail;go_roundw
              case rel=>exact⟨trivial,p+3+1,by go_num,HPn.o,HE.o⟩
              case measure=>simp only[RowKit.intOf];have:=HP.o;omega
            ·have HE:=h_ (HZ.o (by unfold Bad;omega));have q3b:decide ((55296:Int)<=v)=R:=(by simp;omega);clear HY HZ;go_wp2_with fail;go_roundw
             case rel=>exact⟨trivial,p+3+1,by go_num,HPn.o,HE.o⟩
             case measure=>simp only[RowKit.intOf];have:=HP.o;omega
       ·have i4:¬(b0:Int)<245:=(by omega);have HE:Hid (ANS=R):=(by show _=_;rw[<- h3'];exact j7K hpl (.inr (by omega)));clear h3' hb0;go_wp21;go_ret;exact⟨j4 HE.o.symm,rfl⟩
    ·have i1:¬(194:Int)<=(b0:Int):=(by omega);have i1b:decide ((194:Int)<=(b0:Int))=R:=(by simp;omega);have i1c:decide ((224:Int)<=(b0:Int))=R:=(by simp;omega);have i1d:decide ((240:Int)<=(b0:Int))=R:=(by simp;omega);have i1e:¬(224:Int)<=(b0:Int):=(by omega);have i1f:¬(240:Int)<=(b0:Int):=(by omega);have HE:Hid (ANS=R):=(by show _=_;rw[<- h3'];exact j7K hpl (.inl (by omega)));clear h3' hb0;go_wp21;go_ret;exact⟨j4 HE.o.symm,rfl⟩
  ·have hpe:p=n:=(by omega);subst hpe;have HE:Hid (ANS=J):=by
    show _=_;rw[<- h3',List.drop_of_length_le (by rw[HN.o];exact Nat.le_refl _)];rfl
   have j1:¬(p:Int)<(p:Int):=(by omega);clear h3';go_wp2_with fail;go_ret;exact⟨j4 HE.o.symm,rfl⟩
theorem j7L (s:ByteArray)(hs:s.size<=140737488355328)(w:World):
 Calls prog 123 #[aq s] w fun e w'=>e=Q (E (validD s.data.toList))/\w'=w:=by
 obtain⟨⟨l⟩⟩:=s;exact jEU l (by have:l.length<=140737488355328:=(by simpa [ByteArray.size] using hs);omega) w
theorem jDo (v:Vl)(hs:v.s.size<=140737488355328)(w:World):
 Calls prog 90 #[v.val] w fun e w'=>e=Q (E (J8 v (validD v.s.data.toList)))/\Gr w w':=by
 have HU:=h_ (j7L v.s hs);have G0:Hid (∀a t,Gr w (w.alloc (.cells a t))):=fun a t=>(Gr.refl w).alloc _ _
 have hV:Hid (J8 v (validD v.s.data.toList)=(((v.k==1 || (v.x:Int)==0)&&(v.k==2 || decide (v.s.toList=[]))&&(v.k==3 || !v.b)&&(v.k==4 || v.f==0))&&(v.k==0 || v.k==1 || v.k==3 || (v.k==2&&decide (v.s.size<=1024)&&validD v.s.data.toList)||(v.k==4&&(decide (1<=v.f)&&decide (v.f<=5)))))):=rfl;generalize J8 v (validD v.s.data.toList)=V at *;generalize validD v.s.data.toList=aj at *;obtain⟨k,x,s,b,f⟩:=v;simp only at *;clear hs;by_cases k0:k=0
 ·subst k0;go_enter func90,ntmps90;go_wp2_with fail;all_goals
   go_ret;refine⟨j4 ?_,G0.o _ _⟩;rw[hV.o];clear hV G0 HU;simp_all
 by_cases k1:k=1
 ·subst k1;go_enter func90,ntmps90;go_wp2_with fail;all_goals
   go_ret;refine⟨j4 ?_,G0.o _ _⟩;rw[hV.o];clear hV G0 HU;simp_all
 by_cases k2:k=2
 ·subst k2;go_enter func90,ntmps90;go_wp2_with (go_at_call 123;refine(HU.o _).mono ?_;rintro e w' ⟨rfl,rfl⟩);all_goals
   go_ret;refine⟨j4 ?_,G0.o _ _⟩;rw[hV.o];clear hV G0 HU;simp_all
   try omega
 by_cases k3:k=3
 ·subst k3;go_enter func90,ntmps90;go_wp2_with fail;all_goals
   go_ret;refine⟨j4 ?_,G0.o _ _⟩;rw[hV.o];clear hV G0 HU;simp_all
 by_cases k4:k=4
 ·subst k4;go_enter func90,ntmps90;go_wp2_with fail;all_goals
   go_ret;refine⟨j4 ?_,G0.o _ _⟩;rw[hV.o];clear hV G0 HU;simp_all
   try omega
 ·have e0:(k==0)=R:=by simpa using k0
  have e1:(k==1)=R:=by simpa using k1
  have e2:(k==2)=R:=by simpa using k2
  have e3:(k==3)=R:=by simpa using k3
  have e4:(k==4)=R:=by simpa using k4
  have HF:Hid (V=R):=by show _=_;rw[hV.o,e0,e1,e2,e3,e4];simp
  clear hV HU k0 k1 k2 k3 k4;go_enter func90,ntmps90;go_wp2_with fail;all_goals
   go_ret;exact⟨j4 HF.o.symm,G0.o _ _⟩
theorem jCx (c:Ct)(sl:Value)(F:Nat->Prop)(ec:Int)(w:World)(hin:NdIn w F sl c.t)(hs:c.v.s.size<=140737488355328)
 (CK:∀wq,Kp w wq Nul->Calls prog 91 #[c.t.hd.val sl] wq fun e w'=>e=Q (O I ec)/\Kp wq w' Nul) :
 Calls prog 48 #[c.val sl] w fun e w'=>e=Q (E (Q1 c (validD c.v.s.data.toList) ec))/\Kp w w' Nul:=by
 obtain⟨a,cc,hsl⟩:∃a cc,sl=U a c.t.ts.length cc:=by
  obtain⟨k,v,⟨hd,ts⟩⟩:=c;rw[NdIn] at hin;obtain⟨a,cc,h,_⟩:=hin;exact⟨a,cc,h⟩
 have H1:=h_ (jBk c.v);have H2:Hid (∀w,Calls prog 89 #[c.t.hd.val sl] w fun e w'=>e=Q (E (I4 c.t))/\Gr w w'):=fun w=>by
  have:=jBj c.t.hd c.t.ts.length a cc w;rw[jBi,<- hsl] at this;exact this
 have H3:=h_ (jDo c.v hs);have HC:=h_ CK;have hV:Hid (Q1 c (validD c.v.s.data.toList) ec=((c.k==0&&(J9 c.v&&I4 c.t))||(c.k==1&&(c.v.k != 0&&J8 c.v (validD c.v.s.data.toList)&&I4 c.t))||(c.k==2&&(J9 c.v&&ec==0)))):=rfl;generalize Q1 c (validD c.v.s.data.toList) ec=V at *;generalize J9 c.v=Z at *;generalize I4 c.t=ZN at *;generalize J8 c.v (validD c.v.s.data.toList)=VV at *;clear hin hs CK hsl;obtain⟨k,⟨vk,vx,vs,vb,vf⟩,t⟩:=c;simp only at *;have GA:Hid (∀o,Kp w (w.alloc o) Nul):=fun o=>(Kp.refl w Nul).alloc _
 go_enter func48,ntmps48;go_wp2_with fail;refine(H1.o _).mono ?_;rintro e w1 ⟨rfl,hg1⟩;have hcell:=hg1.ext.cell;have G1:=h_ ((GA.o _).trans (Kp.of_gr hg1));have GG1:=h_ hg1;clear hg1 H1;go_wp2_with fail;refine(H2.o _).mono ?_;rintro e w2 ⟨rfl,hg2⟩;have G2:=h_ (G1.o.trans (Kp.of_gr hg2));have hcell2:=(GG1.o.trans hg2).ext.cell;clear hg2 H2 hcell GG1;by_cases k0:k=0
 ·subst k0;clear H3 HC;go_wp2_with fail;all_goals
   go_ret;refine⟨j4 ?_,G2.o⟩;rw[hV.o];clear hV hcell2;simp_all
 by_cases k1:k=1
 ·subst k1;clear HC;go_wp2_with fail;refine(H3.o _).mono ?_;rintro e w3 ⟨rfl,hg3⟩;have G3:=h_ (G2.o.trans (Kp.of_gr hg3));have hc3:w3.cell? ⟨w.heap.size,1,G⟩=H (O I vk):=by
   rw[hg3.ext.cell _ (Nat.lt_of_lt_of_le (Nat.lt_succ_self _) (by
    have:=G2.o.size;have h5:=hcell2 ⟨w.heap.size,0,G⟩ (by simp);have h6:(w2.cell? ⟨w.heap.size,0,G⟩).isSome=J:=(by rw[h5,World.cell?_alloc_at _ _ _ _ rfl];rfl);obtain⟨v,hv⟩:=Option.isSome_iff_exists.1 h6;exact J7 hv)),hcell2 _ (by simp),World.cell?_alloc_at _ _ _ _ rfl]
   rfl
  clear hg3 hcell2 H3;go_wp2_with fail;all_goals
   go_ret;refine⟨j4 ?_,G3.o⟩;rw[hV.o];clear hV hc3
   (try simp_all) <;> (try (rw[Bool.eq_iff_iff];simp))
 by_cases k2:k=2
 ·subst k2;clear H3;go_wp2_with fail;refine(HC.o _ G2.o).mono ?_;rintro e w3 ⟨rfl,hg3⟩;have G3:=h_ (G2.o.trans hg3);clear hg3 hcell2 HC;go_wp2_with fail;all_goals
   go_ret;refine⟨j4 ?_,G3.o⟩;rw[hV.o];clear hV
   (try simp_all) <;> (try (rw[Bool.eq_iff_iff];simp))
 ·have e0:(k==0)=R:=by simpa using k0
  have e1:(k==1)=R:=by simpa using k1
  have e2:(k==2)=R:=by simpa using k2
  have HE:Hid (V=R):=by show _=_;rw[hV.o,e0,e1,e2];rfl
  clear H3 HC hV;go_wp2_with fail;go_ret;exact⟨j4 HE.o.symm,G2.o⟩
end Go.Proofs.YtecjfnkakodebaaGreatDoor
