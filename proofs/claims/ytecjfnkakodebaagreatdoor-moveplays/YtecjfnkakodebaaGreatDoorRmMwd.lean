/-Move: the document's Places, span, many, lost (quadrilleref22). -/
import Derived.Test.YtecjfnkakodebaaGreatDoorRmXd
import Derived.Deep.OwnRows
open Go.Proofs.Tryz
open Go.Value renaming int->O,bool->E,slice->U,tuple->au
open Go.IntKind renaming i64->I
open Bool renaming false->R,true->J
open Option renaming some->H,none->G
open Go.Ending renaming returned->Q
set_option maxRecDepth 20000
set_option maxHeartbeats 8000000
namespace Go.Proofs.YtecjfnkakodebaaGreatDoor
open Go.RowKit
theorem jAR:(prog.info? 3).map (fun i=>(i.zero,i.size,i.bytes))=H (H (O I 0),1,8):=by kernel_rfl
theorem jB8 (z:Value)(n:Nat):(madeCells #[z] n).toList=List.replicate n z:=by
 apply List.ext_getElem?
 intro i;simp only[madeCells,Array.toList_map,Array.toList_range,List.getElem?_map];by_cases h:i<n
 ·rw[List.getElem?_range h,List.getElem?_replicate,if_pos h];simp[Nat.mod_one]
 ·rw[List.getElem?_eq_none (by simp;omega),List.getElem?_replicate,if_neg h];rfl
theorem jBA (t e:TypeId)(z:Value)(bytes:Nat)(ht:prog.underlying t=H (.slice e))(hinfo:(prog.info? e).map (fun i=>(i.zero,i.size,i.bytes))=H (H z,1,bytes))(hz1:z.cells=#[z])(n:Nat)(hb:bytes*n<=281474976710656)(h63:n<=9223372036854775807):
 ∃cs:Array Value,cs.toList=List.replicate n z/\∀w:World,(Instr.makeSlice t (O I (n:Int)) (O I (n:Int))).run prog w=.ok (U (H ⟨w.heap.size,0,G⟩) n n) (w.alloc (.cells cs e)):=
 ⟨_,jB8 z n,fun w=>run_make_row' t e z bytes ht hinfo hz1 .i64 .i64 n hb h63 w⟩
def ints (l:List Int):List Value:=l.map (O I ·)
theorem j0i {l:List Int}{i:Nat}{x:Int}(h:l[i]? = H x):(ints l)[i]? = H (O I x):=by
 unfold ints;rw[List.getElem?_map,h];rfl
theorem jAV (l:List Int)(i:Nat)(x:Int):(ints l).set i (O I x)=ints (l.set i x):=by
 unfold ints;rw[List.map_set]
theorem jAU (n:Nat):ints (List.replicate n 0)=List.replicate n (O I 0):=by
 unfold ints;rw[List.map_replicate]
theorem j6I (m:Nat)(at' n:Int)(w:World)(h:LnOk at' n m)(hm:m<=4096):
 Calls prog 71 #[O I (m:Int),O I at',O I n] w fun e w'=>e=Q (U (H ⟨w.heap.size,0,G⟩) (m+1) (m+1))/\Blk w' w.heap.size (ints (plL at' n m m (m+1))) 3/\Kp w w' Nul:=by
 obtain⟨cs,hcs,hmk⟩:=jBA 122 3 (O I 0) 8 underlying122 jAR rfl (m+1) (by omega) (by omega);have e1:((m+1:Nat):Int)=(m:Int)+1:=by omega
 rw[e1] at hmk;have HB0:Hid (Blk (w.alloc (.cells cs 3)) w.heap.size (ints (plL at' n m m 1)) 3):=by
  show Blk _ _ _ _;rw[jCS,jAU,<- hcs];exact Blk.new' w cs _
 have HL:=h_ h;have hm0:(0:Int)<=(m:Int):=by omega
 have hm1:(m:Int)<=4096:=by omega
 obtain⟨l1,l2,l3,l4⟩:=h;have wa:wrap64 (at'-n)=at'-n:=by unfold wrap64;omega
 clear hcs e1;go_enter func71,ntmps71;go_wp2_with fail;go_loopw[8,9] (fun x k wr=>∃q:Nat,1<=q/\q<=m+1/\k=O I q/\x=O I (nx at' n q)/\Blk wr w.heap.size (ints (plL at' n m m q)) 3/\Kp w wr Nul) (fun _ k _=>m+1-(RowKit.intOf k).toNat)
 case atStart=>exact⟨1,Nat.le_refl _,by omega,rfl,by rw[show ((1:Nat):Int)=1 from rfl,jBq HL.o.lo],HB0.o,(Kp.refl _ _).alloc _⟩
 case round=>
  obtain⟨q,hq1,hq2,rfl,rfl,hb,hk⟩:=hrel;have HB:=h_ hb;have HK:=h_ hk;clear hb hk;have g1:(1:Int)<=(q:Int):=by omega
  by_cases hle:q<=m
  ·have g2:(q:Int)<=(m:Int):=(by omega);have hbd:=jBp HL.o g1 (by omega);have hfz:wr.frozen? ⟨w.heap.size,q,G⟩=R:=HB.o.froz _;obtain⟨cv,hcv⟩:∃cv,wr.cell? ⟨w.heap.size,q,G⟩=H (O I cv):=⟨_,HB.o.cell (j0i (Y9 hle))⟩;have HST:Hid (∀x,x=pl at' n m q->Blk (wr.setCell ⟨w.heap.size,q,G⟩ (O I x)) w.heap.size (ints (plL at' n m m (q+1))) 3/\Kp w (wr.setCell ⟨w.heap.size,q,G⟩ (O I x)) Nul):=fun x hx=>by
    have h1:=HB.o.set q (O I x);rw[jAV,hx,jCT hq1 hle,<- hx] at h1;exact⟨h1,HK.o.setCell _ _ (.inl (Nat.le_refl _))⟩
   have HSK:Hid (pl at' n m q=0->Blk wr w.heap.size (ints (plL at' n m m (q+1))) 3):=fun hz=>by
    have h1:=HB.o;rw[jCU hz] at h1;exact h1
   by_cases c1:(q:Int)=at'
   ·subst c1;have hin:=(fun q0:0<n=>j65 (at':=(q:Int)) (n:=n) rfl q0);have hpi:=(fun q0:0<n=>jCV (at':=(q:Int)) (n:=n) rfl q0 m);have hgo:=(fun q0:n<0=>j64 (at':=(q:Int)) (n:=n) (k:=q) q0 (Int.le_refl _) (by omega));have hst:=(fun q0:n=0=>j66 (at':=(q:Int)) (n:=n) (k:=q) (by omega) (by omega));have HF:Hid ((0<n->nx (q:Int) n q=q/\nx (q:Int) n q+n+1=nx (q:Int) n (q+1))/\(0<n->pl (q:Int) n m q=if nx (q:Int) n q+n<=m then nx (q:Int) n q+n else 0)/\(n<0->nx (q:Int) n (q+1)=nx (q:Int) n q/\∀most,pl (q:Int) n most q=0)/\(n=0->nx (q:Int) n (q+1)=nx (q:Int) n q+1/\∀most,pl (q:Int) n most q=if nx (q:Int) n q<=most then nx (q:Int) n q else 0)):=⟨hin,hpi,hgo,hst⟩;clear hin hpi hgo hst;obtain⟨N,hN⟩:=e_ (nx (q:Int) n q);rw[hN] at HF hbd ⊢;clear hN;obtain⟨b1,b2⟩:=hbd;have hlq:(q:Int)<(m:Int)+1:=(by omega);by_cases c2:0<n
    ·have c3:¬n<0:=(by omega);have wn:wrap64 (N+n)=N+n:=(by unfold wrap64;omega);by_cases c6:N+n<=(m:Int)
     ·go_wp2_with fail;go_roundw
      case rel=>exact⟨q+1,by omega,by omega,by go_num,by rw[show ((q+1:Nat):Int)=(q:Int)+1 by omega];rw[<- (HF.o.1 c2).2],(HST.o _ (by rw[HF.o.2.1 c2,if_pos c6])).1,(HST.o _ (by rw[HF.o.2.1 c2,if_pos c6])).2⟩
      case measure=>simp only[RowKit.intOf];omega
     ·go_wp2_with fail;go_roundw
      case rel=>exact⟨q+1,by omega,by omega,by go_num,by rw[show ((q+1:Nat):Int)=(q:Int)+1 by omega];rw[<- (HF.o.1 c2).2],HSK.o (by rw[HF.o.2.1 c2,if_neg c6]),HK.o⟩
      case measure=>simp only[RowKit.intOf];omega
    ·by_cases c3:n<0
     ·have c4:(q:Int)<(q:Int)-n:=(by omega);have c5:(q:Int)<=(q:Int):=Int.le_refl _;go_wp2_with fail;go_roundw
      case rel=>exact⟨q+1,by omega,by omega,by go_num,by rw[show ((q+1:Nat):Int)=(q:Int)+1 by omega];rw[(HF.o.2.2.1 c3).1],HSK.o ((HF.o.2.2.1 c3).2 _),HK.o⟩
      case measure=>simp only[RowKit.intOf];omega
     ·have c7:n=0:=(by omega);have hz:=HF.o.2.2.2 c7;by_cases c6:N<=(m:Int)
      ·go_wp2_with fail;go_roundw
       case rel=>exact⟨q+1,by omega,by omega,by go_num,by rw[show ((q+1:Nat):Int)=(q:Int)+1 by omega];rw[hz.1],(HST.o _ (by rw[hz.2,if_pos c6])).1,(HST.o _ (by rw[hz.2,if_pos c6])).2⟩
       case measure=>simp only[RowKit.intOf];omega
      ·go_wp2_with fail;go_roundw
       case rel=>exact⟨q+1,by omega,by omega,by go_num,by rw[show ((q+1:Nat):Int)=(q:Int)+1 by omega];rw[hz.1],HSK.o (by rw[hz.2,if_neg c6]),HK.o⟩
       case measure=>simp only[RowKit.intOf];omega
   ·have hlq:(q:Int)<(m:Int)+1:=(by omega);by_cases cg:n<0/\at'<=(q:Int)/\(q:Int)<at'-n
    ·have hgo:=j64 cg.1 cg.2.1 cg.2.2;have HF:=h_ hgo;obtain⟨c3,c4,c5⟩:=cg;clear hgo;obtain⟨N,hN⟩:=e_ (nx at' n q);rw[hN] at HF hbd ⊢;clear hN;go_wp2_with fail;go_roundw
     case rel=>exact⟨q+1,by omega,by omega,by go_num,by rw[show ((q+1:Nat):Int)=(q:Int)+1 by omega];rw[HF.o.1],HSK.o (HF.o.2 _),HK.o⟩
     case measure=>simp only[RowKit.intOf];omega
    ·have hst:=j66 (k:=(q:Int)) (fun z=>c1 z.1) cg;have HF:=h_ hst;clear hst;obtain⟨N,hN⟩:=e_ (nx at' n q);rw[hN] at HF hbd ⊢;clear hN;obtain⟨b1,b2⟩:=hbd;by_cases c3:n<0
     ·by_cases c4:at'<=(q:Int)
      ·have c5:¬(q:Int)<at'-n:=(fun z=>cg ⟨c3,c4,z⟩);clear cg;by_cases c6:N<=(m:Int)
       ·go_wp2_with fail;go_roundw
        case rel=>exact⟨q+1,by omega,by omega,by go_num,by rw[show ((q+1:Nat):Int)=(q:Int)+1 by omega];rw[HF.o.1],(HST.o _ (by rw[HF.o.2,if_pos c6])).1,(HST.o _ (by rw[HF.o.2,if_pos c6])).2⟩
        case measure=>simp only[RowKit.intOf];omega
       ·go_wp2_with fail;go_roundw
        case rel=>exact⟨q+1,by omega,by omega,by go_num,by rw[show ((q+1:Nat):Int)=(q:Int)+1 by omega];rw[HF.o.1],HSK.o (by rw[HF.o.2,if_neg c6]),HK.o⟩
        case measure=>simp only[RowKit.intOf];omega
      ·clear cg;by_cases c6:N<=(m:Int)
       ·go_wp2_with fail;go_roundw
        case rel=>exact⟨q+1,by omega,by omega,by go_num,by rw[show ((q+1:Nat):Int)=(q:Int)+1 by omega];rw[HF.o.1],(HST.o _ (by rw[HF.o.2,if_pos c6])).1,(HST.o _ (by rw[HF.o.2,if_pos c6])).2⟩
        case measure=>simp only[RowKit.intOf];omega
       ·go_wp2_with fail;go_roundw
        case rel=>exact⟨q+1,by omega,by omega,by go_num,by rw[show ((q+1:Nat):Int)=(q:Int)+1 by omega];rw[HF.o.1],HSK.o (by rw[HF.o.2,if_neg c6]),HK.o⟩
        case measure=>simp only[RowKit.intOf];omega
     ·clear cg;by_cases c6:N<=(m:Int)
      ·go_wp2_with fail;go_roundw
       case rel=>exact⟨q+1,by omega,by omega,by go_num,by rw[show ((q+1:Nat):Int)=(q:Int)+1 by omega];rw[HF.o.1],(HST.o _ (by rw[HF.o.2,if_pos c6])).1,(HST.o _ (by rw[HF.o.2,if_pos c6])).2⟩
       case measure=>simp only[RowKit.intOf];omega
      ·go_wp2_with fail;go_roundw
       case rel=>exact⟨q+1,by omega,by omega,by go_num,by rw[show ((q+1:Nat):Int)=(q:Int)+1 by omega];rw[HF.o.1],HSK.o (by rw[HF.o.2,if_neg c6]),HK.o⟩
       case measure=>simp only[RowKit.intOf];omega
  ·have hqe:q=m+1:=(by omega);subst hqe;have gq:¬((m+1:Nat):Int)<=(m:Int):=(by omega);go_wp2_with fail;go_ret;exact⟨rfl,HB.o,HK.o⟩
theorem j73 (m lb:Nat)(at' n a b:Int)(w:World)(h:LnOk at' n m)(hm:m<=4096)(h1:1<=a)(h2:a<=b)(h3:b<=m)(hb:Blk w lb (ints (plL at' n m m (m+1))) 3):
 Calls prog 111 #[U (H ⟨lb,0,G⟩) (m+1) (m+1),O I a,O I b] w fun e w'=>e=Q (au #[O I (spA at' n m a (b+1)).1,O I (spA at' n m a (b+1)).2,E (decide (0<(spA at' n m a (b+1)).1))])/\w'=w:=by
 have HS0:Hid (spA at' n m a a=(0,0)):=j72;have HST:Hid (∀k:Int,a<=k->k<=b->spA at' n m a (k+1)=if 0<pl at' n m k then (if (spA at' n m a k).1=0 then pl at' n m k else (spA at' n m a k).1,pl at' n m k) else spA at' n m a k):=fun k g1 g2=>jE5 h h1 g1 (by omega)
 have HC:Hid (∀q:Nat,1<=q->q<=m->w.cell? ⟨lb,q,G⟩=H (O I (pl at' n m q))):=fun q g1 g2=>hb.cell (j0i (by rw[Y9 g2,if_pos (by omega)]))
 have hm1:(m:Int)<=4096:=by omega
 clear h hb;generalize hsp:spA at' n m a=sp at *;clear hsp;go_enter func111,ntmps111;go_wp2_with fail;go_loopw[9,10,11] (fun x y k wr=>∃q:Nat,a<=(q:Int)/\(q:Int)<=b+1/\k=O I q/\x=O I (sp q).1/\y=O I (sp q).2/\wr=w) (fun _ _ k _=>(b+1).toNat-(RowKit.intOf k).toNat)
 case atStart=>exact⟨a.toNat,by omega,by omega,by rw[show ((a.toNat:Nat):Int)=a by omega],by rw[show ((a.toNat:Nat):Int)=a by omega,HS0.o],by rw[show ((a.toNat:Nat):Int)=a by omega,HS0.o],rfl⟩
 case round=>
  obtain⟨q,g1,g2,rfl,rfl,rfl,rfl⟩:=hrel;by_cases hle:(q:Int)<=b
  ·have hc:=HC.o q (by omega) (by omega);have HS:=h_ (HST.o q g1 hle);obtain⟨P,hP⟩:=e_ (pl at' n m q);rw[hP] at hc HS;clear hP;obtain⟨X,hX⟩:=e_ ((sp q).1);obtain⟨Y,hY⟩:=e_ ((sp q).2);have HXY:Hid (sp q=(X,Y)):=(by show _=_;rw[<- hX,<- hY]);rw[hX,hY];rw[hX] at HS;clear hX hY;have hq0:(0:Int)<=(q:Int):=(by omega);have hlq:(q:Int)<(m:Int)+1:=(by omega);by_cases c1:0<P
   ·by_cases c2:X=0
    ·subst c2;go_wp2_with fail;go_roundw
     case rel=>exact⟨q+1,by omega,by omega,by go_num,by rw[show ((q+1:Nat):Int)=(q:Int)+1 by omega,HS.o,if_pos c1,if_pos rfl],by rw[show ((q+1:Nat):Int)=(q:Int)+1 by omega,HS.o,if_pos c1],trivial⟩
     case measure=>simp only[RowKit.intOf];omega
    ·go_wp2_with fail;go_roundw
     case rel=>exact⟨q+1,by omega,by omega,by go_num,by rw[show ((q+1:Nat):Int)=(q:Int)+1 by omega,HS.o,if_pos c1,if_neg c2],by rw[show ((q+1:Nat):Int)=(q:Int)+1 by omega,HS.o,if_pos c1],trivial⟩
     case measure=>simp only[RowKit.intOf];omega
   ·go_wp2_with fail;go_roundw
    case rel=>exact⟨q+1,by omega,by omega,by go_num,by rw[show ((q+1:Nat):Int)=(q:Int)+1 by omega,HS.o,if_neg c1,HXY.o],by rw[show ((q+1:Nat):Int)=(q:Int)+1 by omega,HS.o,if_neg c1,HXY.o],trivial⟩
    case measure=>simp only[RowKit.intOf];omega
  ·have hqe:(q:Int)=b+1:=(by omega);have HQ:Hid (sp (q:Int)=sp (b+1)):=(by show _=_;rw[hqe]);obtain⟨X,hX⟩:=e_ ((sp q).1);obtain⟨Y,hY⟩:=e_ ((sp q).2);have HE:Hid ((sp (b+1)).1=X/\(sp (b+1)).2=Y):=⟨by rw[<- HQ.o,hX],by rw[<- HQ.o,hY]⟩;rw[hX,hY];clear hX hY hqe HQ;go_wp2_with fail;refine bodyPost_ret (v:=au #[O I X,O I Y,E (decide (0<X))]) (by simp[results,results111,go_sem]) rfl ?_;exact⟨by rw[HE.o.1,HE.o.2],rfl⟩
theorem j22 (cols:Bool)(at' n:Int)(w:World):
 Calls prog 70 #[E cols,O I at',O I n] w fun e w'=>e=Q (au #[O I (if cols then 256 else 4096),E (decide (1<=at'/\at'<=(if cols then 256 else 4096) /\ -(if cols then 256 else 4096)<=n/\n<=(if cols then 256 else 4096)))])/\w'=w:=by
 cases cols
 ·simp only[Bool.false_eq_true,if_false];by_cases c1:1<=at'
  ·skip
   by_cases c2:at'<=4096
   ·skip
    by_cases c3:-4096<=n
    ·skip
     by_cases c4:n<=4096
     ·have e:decide (1<=at'/\at'<=4096 /\ -4096<=n/\n<=4096)=J:=(by exact decide_eq_true ⟨c1,c2,c3,c4⟩);rw[e];clear e;go_enter func70,ntmps70;go_wp2;refine bodyPost_ret (v:=au #[O I 4096,E J]) (by simp[results,results70,go_sem]) rfl ?_;exact⟨rfl,rfl⟩
     ·have e:decide (1<=at'/\at'<=4096 /\ -4096<=n/\n<=4096)=R:=(by exact decide_eq_false (by omega));rw[e];clear e;go_enter func70,ntmps70;go_wp2;refine bodyPost_ret (v:=au #[O I 4096,E R]) (by simp[results,results70,go_sem]) rfl ?_;exact⟨rfl,rfl⟩
    ·have e:decide (1<=at'/\at'<=4096 /\ -4096<=n/\n<=4096)=R:=(by exact decide_eq_false (by omega));rw[e];clear e;go_enter func70,ntmps70;go_wp2;refine bodyPost_ret (v:=au #[O I 4096,E R]) (by simp[results,results70,go_sem]) rfl ?_;exact⟨rfl,rfl⟩
   ·have e:decide (1<=at'/\at'<=4096 /\ -4096<=n/\n<=4096)=R:=(by exact decide_eq_false (by omega));rw[e];clear e;go_enter func70,ntmps70;go_wp2;refine bodyPost_ret (v:=au #[O I 4096,E R]) (by simp[results,results70,go_sem]) rfl ?_;exact⟨rfl,rfl⟩
  ·have e:decide (1<=at'/\at'<=4096 /\ -4096<=n/\n<=4096)=R:=(by exact decide_eq_false (by omega));rw[e];clear e;go_enter func70,ntmps70;go_wp2;refine bodyPost_ret (v:=au #[O I 4096,E R]) (by simp[results,results70,go_sem]) rfl ?_;exact⟨rfl,rfl⟩
 ·simp only[if_true];by_cases c1:1<=at'
  ·skip
   by_cases c2:at'<=256
   ·skip
    by_cases c3:-256<=n
    ·skip
     by_cases c4:n<=256
     ·have e:decide (1<=at'/\at'<=256 /\ -256<=n/\n<=256)=J:=(by exact decide_eq_true ⟨c1,c2,c3,c4⟩);rw[e];clear e;go_enter func70,ntmps70;go_wp2;refine bodyPost_ret (v:=au #[O I 256,E J]) (by simp[results,results70,go_sem]) rfl ?_;exact⟨rfl,rfl⟩
     ·have e:decide (1<=at'/\at'<=256 /\ -256<=n/\n<=256)=R:=(by exact decide_eq_false (by omega));rw[e];clear e;go_enter func70,ntmps70;go_wp2;refine bodyPost_ret (v:=au #[O I 256,E R]) (by simp[results,results70,go_sem]) rfl ?_;exact⟨rfl,rfl⟩
    ·have e:decide (1<=at'/\at'<=256 /\ -256<=n/\n<=256)=R:=(by exact decide_eq_false (by omega));rw[e];clear e;go_enter func70,ntmps70;go_wp2;refine bodyPost_ret (v:=au #[O I 256,E R]) (by simp[results,results70,go_sem]) rfl ?_;exact⟨rfl,rfl⟩
   ·have e:decide (1<=at'/\at'<=256 /\ -256<=n/\n<=256)=R:=(by exact decide_eq_false (by omega));rw[e];clear e;go_enter func70,ntmps70;go_wp2;refine bodyPost_ret (v:=au #[O I 256,E R]) (by simp[results,results70,go_sem]) rfl ?_;exact⟨rfl,rfl⟩
  ·have e:decide (1<=at'/\at'<=256 /\ -256<=n/\n<=256)=R:=(by exact decide_eq_false (by omega));rw[e];clear e;go_enter func70,ntmps70;go_wp2;refine bodyPost_ret (v:=au #[O I 256,E R]) (by simp[results,results70,go_sem]) rfl ?_;exact⟨rfl,rfl⟩
end Go.Proofs.YtecjfnkakodebaaGreatDoor
