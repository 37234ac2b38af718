/-Packed: the reader's node. -/
import Derived.Test.YtnceajanlnnfoaaGreatDoorQrPko
set_option maxRecDepth 20000
set_option maxHeartbeats 16000000
namespace Go.Proofs.YtnceajanlnnfoaaGreatDoor
section
open Go.RowKit Go.Shelf
theorem jBa {w:World}{B:Nat}{v:Value}{h:Hd}{us:List Nd}{fp:List Nat}(q:Own w B v (.mk h us) fp):∃p c,v=.slice p us.length c:=by
 have q1:=q.own;rw[E6] at q1;rcases q1 with ⟨rfl,rfl,_⟩|⟨b,c,fps,cs,rfl,_⟩
 ·exact⟨none,0,rfl⟩
 ·exact⟨_,c,rfl⟩
theorem j5J {d f f':Nat}{l l':List UInt8}{t:Nd}(hd:f<=d)(h:rNd d f l=some (t,f',l')):f'<=f:=by
 have:=((Y7 d hd).1 h).2.1;omega
theorem jDt {x:Nat}(h:x<10):shP x<256:=by
 revert x;decide
theorem Sh.lt {w:World}(h:Sh w):1<w.heap.size:=by
 obtain⟨T,fr,h⟩:=h;exact(Array.getElem?_eq_some_iff.1 h).1
theorem j5g (r:Nat)(l:List UInt8)(w:World)(h:Rr w r l 256):Calls Tryz.prog 175 #[.pointer (some ⟨r,0,none⟩)] w fun e w'=>e=.panicked ef/\Kp w w' (fun i=>i=r):=by
 obtain⟨W,hW⟩:∃W,w.alloc (.cells #[.int .i64 0,.int .i64 0,.float .f64 0,.string ⟨#[]⟩,.bool false,.int .i64 0,.int .i64 0,.int .i64 0,.bool false,.bool false,.int .i64 0,.int .i64 0,.bool false,.bool false,.slice none 0 0] 64)=W:=⟨_,rfl⟩;have HW:Hid (w.alloc (.cells #[.int .i64 0,.int .i64 0,.float .f64 0,.string ⟨#[]⟩,.bool false,.int .i64 0,.int .i64 0,.int .i64 0,.bool false,.bool false,.int .i64 0,.int .i64 0,.bool false,.bool false,.slice none 0 0] 64)=W):=hW;have hb:Rr W r l 256:=by rw[<- hW];exact h.alloc _
 have HM0:Hid (∀v w,Calls Tryz.prog 133 #[v,.bool false] w fun e w'=>e=.panicked ef/\w'=w):=Y3;have c1:W.cell? ⟨r,1,none⟩=some (.int .i64 256):=hb.cell rfl;have f1:W.frozen? ⟨r,1,none⟩=false:=hb.froz 1;have HK:Hid (∀v,Kp w (W.setCell ⟨r,1,none⟩ v) (fun i=>i=r)):=fun v=>by
  rw[<- hW];exact((Kp.refl w _).alloc _).setCell _ _ (.inr rfl)
 clear h hb hW;go_enter Tryz.func175,Tryz.ntmps175;go_wp2_with (first|(rw[HW.out])|fail);refine(HM0.out _ _).mono ?_;rintro e w2 ⟨rfl,hz⟩;replace hz:=hz.symm;subst hz;go_wp2_with fail;exact⟨rfl,rfl,HK.out _⟩
theorem jCw (r:Nat)(hrg:r ≠ 1):∀(d f:Nat) (l:List UInt8) (w:World),f<=d->f<=256->Rr w r l (256-(f:Int))->Sh w ->
 Calls Tryz.prog 175 #[.pointer (some ⟨r,0,none⟩)] w fun e w'=>RnP r w (rNd d f l) e w':=by
 intro d;induction d with
 | zero=>
  intro f l w h1 _ hr _;obtain rfl:f=0:=by omega
  exact(j5g r l w hr).mono fun e w' ⟨he,hk⟩=>by subst he;exact RnP.no hk
 | succ d ih=>
  intro f l w h1 h2 hr hsh;rcases Nat.eq_zero_or_pos f with rfl|hf
  ·exact(j5g r l w hr).mono fun e w' ⟨he,hk⟩=>by subst he;rw[rNd,if_pos rfl];exact RnP.no hk
  obtain⟨o,ho⟩:∃o,rNd (d+1) f l=o:=⟨_,rfl⟩;rw[ho];have HO:Hid (o=(rNum 1 l).bind fun p=>(rFld p.1 p.2).bind fun q=>(F2 (rNd d) q.1.2 (f-1) q.2).map fun r=>(.mk q.1.1 r.1,r.2.1,r.2.2)):=by
   show _=_;rw[<- ho,rNd,if_neg (by omega)]
  have IH:Hid (∀(f:Nat) (l:List UInt8) (w:World),f<=d->f<=256->Rr w r l (256-(f:Int))->Sh w->Calls Tryz.prog 175 #[.pointer (some ⟨r,0,none⟩)] w fun e w'=>RnP r w (rNd d f l) e w'):=ih;have HNO:Hid (∀w',o=none->Kp w w' (fun j=>j=r)->RnP r w o (.panicked ef) w'):=fun w' e kp=>RnP.fin_no e kp
  obtain⟨kk,hkk⟩:∃kk:Int,256-(f:Int)=kk:=⟨_,rfl⟩;have hkl:kk+1<=256:=by omega
  have hk0:0<=kk:=by omega
  have HF:Hid (kk+1=256-((f-1:Nat):Int)/\f-1<=d/\f-1<=256):=⟨by omega,by omega,by omega⟩;rw[hkk] at hr;have HRG:Hid (r ≠ 1):=hrg;obtain⟨W,hW⟩:∃W,w.alloc (.cells #[.int .i64 0,.int .i64 0,.float .f64 0,.string ⟨#[]⟩,.bool false,.int .i64 0,.int .i64 0,.int .i64 0,.bool false,.bool false,.int .i64 0,.int .i64 0,.bool false,.bool false,.slice none 0 0] 64)=W:=⟨_,rfl⟩;have HW:Hid (w.alloc (.cells #[.int .i64 0,.int .i64 0,.float .f64 0,.string ⟨#[]⟩,.bool false,.int .i64 0,.int .i64 0,.int .i64 0,.bool false,.bool false,.int .i64 0,.int .i64 0,.bool false,.bool false,.slice none 0 0] 64)=W):=hW;have hb:Rr W r l kk:=by rw[<- hW];exact hr.alloc _
  have HM1:Hid (∀v w,Calls Tryz.prog 133 #[v,.bool true] w fun e w'=>e=.returned (.tuple #[])/\w'=w):=j0f;have HM0:Hid (∀v w,Calls Tryz.prog 133 #[v,.bool false] w fun e w'=>e=.panicked ef/\w'=w):=Y3;have c1:W.cell? ⟨r,1,none⟩=some (.int .i64 kk):=hb.cell rfl;have f1:W.frozen? ⟨r,1,none⟩=false:=hb.froz 1;have hWs:W.heap.size=w.heap.size+1:=by rw[<- hW];exact World.size_alloc _ _
  have HWB:Hid (Blk W w.heap.size (zHd.cells (.slice none 0 0)) 64/\Kp w W (fun j=>j=r)/\Sh W/\r<w.heap.size/\W.heap.size=w.heap.size+1):=by
   refine⟨by rw[<- hW];exact Blk.new w (zHd.cells (.slice none 0 0)) _,by rw[<- hW];exact(Kp.refl _ _).alloc _,by rw[<- hW];exact hsh.kp ((Kp.refl _ Nul).alloc _) (fun x=>x),hr.lt,hWs⟩
  have HRW:Hid (Rr W r l kk):=hb;clear ih hr hsh hb hW hkk hrg hf h1 h2 ho hWs;have hkd:decide (kk+1<=256)=true:=decide_eq_true hkl;go_enter Tryz.func175,Tryz.ntmps175;go_wp2_with (first|(rw[HW.out])|fail);refine(HM1.out _ _).mono ?_;rintro e w2 ⟨rfl,hz⟩;replace hz:=hz.symm;subst hz;obtain⟨W1,hW1⟩:∃W1,W.setCell ⟨r,1,none⟩ (.int .i64 (kk+1))=W1:=⟨_,rfl⟩;rw[hW1];have hr1:Rr W1 r l (kk+1):=by rw[<- hW1];exact HRW.out.set 1 _
  have kW1:Kp W W1 (fun j=>j=r):=by rw[<- hW1];exact(Kp.refl _ _).setCell _ _ (.inr rfl)
  have HW1:Hid (Blk W1 w.heap.size (zHd.cells (.slice none 0 0)) 64/\Kp w W1 (fun j=>j=r)/\Sh W1/\r<w.heap.size/\w.heap.size+1<=W1.heap.size):=by
   obtain⟨q1,q2,q3,q4,q5⟩:=HWB.out;exact⟨q1.kp kW1 (fun e=>by omega),q2.trans kW1,q3.kp kW1 (fun e=>HRG.out e.symm),q4,by have:=kW1.size;omega⟩
  have HC:Hid (Calls Tryz.prog 173 #[.pointer (some ⟨r,0,none⟩)] W1 fun e w'=>RdP r W1 (kk+1) ((rNum 1 l).map fun p=>(.int .i64 (p.1:Nat),p.2)) e w'):=T9 r l (kk+1) W1 hr1;clear hW1 hr1 kW1 HRW HWB HW c1 f1 hkd;go_wp2_with fail;refine HC.out.mono ?_;intro e w1 hr;cases hq:rNum 1 l with
  | none=>
   rw[hq] at hr;cases hr with
   | no kp1=>
    have HFN:Hid (RnP r w o (.panicked ef) w1):=HNO.out w1 (by rw[HO.out,hq];rfl) (HW1.out.2.1.trans kp1);go_wp2_with fail;exact⟨rfl,HFN.out⟩
  | some p=>
  obtain⟨x,d0⟩:=p;rw[hq] at hr;cases hr with
  | ok h1 kp1=>
  have HO1:Hid (o=(rFld x d0).bind fun q=>(F2 (rNd d) q.1.2 (f-1) q.2).map fun r=>(.mk q.1.1 r.1,r.2.1,r.2.2)):=by
   show _=_;rw[HO.out,hq]
   rfl
  obtain⟨W2,hW2⟩:∃W2,w1.alloc (.cells #[.int .i64 x,.int .i64 0,.float .f64 0,.string ⟨#[]⟩,.bool false,.int .i64 0,.int .i64 0,.int .i64 0,.bool false,.bool false,.int .i64 0,.int .i64 0,.bool false,.bool false,.slice none 0 0] 64)=W2:=⟨_,rfl⟩;have HW2:Hid (w1.alloc (.cells #[.int .i64 x,.int .i64 0,.float .f64 0,.string ⟨#[]⟩,.bool false,.int .i64 0,.int .i64 0,.int .i64 0,.bool false,.bool false,.int .i64 0,.int .i64 0,.bool false,.bool false,.slice none 0 0] 64)=W2):=hW2;obtain⟨nb,hnb⟩:∃nb,w1.heap.size=nb:=⟨_,rfl⟩;have HNB:Hid (w1.heap.size=nb):=hnb;have HR2:Hid (Rr W2 r d0 (kk+1)):=by show Rr _ _ _ _;rw[<- hW2];exact h1.alloc _
  have hB2:Blk W2 nb (({ zHd with k:=(x:Nat) }:Hd).cells (.slice none 0 0)) 64:=by rw[<- hnb,<- hW2];exact Blk.new w1 (({ zHd with k:=(x:Nat) }:Hd).cells (.slice none 0 0)) _
  have HB2:Hid (Blk W2 nb (({ zHd with k:=(x:Nat) }:Hd).cells (.slice none 0 0)) 64):=hB2;have lk:W2.cell? ⟨nb,0,none⟩=some (.int .i64 x):=hB2.cell rfl;have HS2:Hid (Blk W2 w.heap.size (zHd.cells (.slice none 0 0)) 64/\Kp w W2 (fun j=>j=r)/\Sh W2/\r<w.heap.size/\w.heap.size<nb/\W2.heap.size=nb+1):=by
   obtain⟨q1,q2,q3,q4,q5⟩:=HW1.out;have k2:Kp W1 W2 (fun j=>j=r):=(by rw[<- hW2];exact kp1.alloc _);have:=kp1.size;exact⟨q1.kp k2 (fun e=>by omega),q2.trans k2,q3.kp k2 (fun e=>HRG.out e.symm),q4,by omega,by rw[<- hW2,World.size_alloc,hnb]⟩
  have HSM:Hid (∀wr,Kp W2 wr (fun j=>j=r∨j=nb)->Sh wr):=fun wr k=>HS2.out.2.2.1.kp k (fun e=>by
   rcases e with e|e
   ·exact HRG.out e.symm
   ·have:=HS2.out.2.2.2.2.1;have:=HW1.out.2.2.1.lt;have:=kp1.size;omega)
  clear h1 kp1 hq HC HO HW1 hB2 hW2;go_wp2_with (first|(refine I5 rfl 64 (.tmp 3) (.tmp 23) rfl _ _ _ _ _ (by first|rfl|simp) rfl rfl rfl z6 (Hd.one ({ zHd with k:=(x:Nat) }:Hd) rfl) ?_)|fail);rw[HW2.out];clear hnb HNB HW2;by_cases hx:x<10
  case neg=>
   have hx':decide ((x:Int)<10)=false:=decide_eq_false (by omega);have HFN:Hid (RnP r w o (.panicked ef) W2):=HNO.out W2 (by rw[HO1.out,jC8 (by omega)];rfl) HS2.out.2.1;clear hx;rw[hx'];refine(HM0.out _ _).mono ?_;rintro e w2 ⟨rfl,hz⟩;replace hz:=hz.symm;subst hz;go_wp2_with fail;exact⟨rfl,HFN.out⟩
  have hx':decide ((x:Int)<10)=true:=decide_eq_true (by omega);rw[hx'];refine(HM1.out _ _).mono ?_;rintro e w2 ⟨rfl,hz⟩;replace hz:=hz.symm;subst hz;clear hx' HM0 HM1;obtain⟨a0,ha0⟩:∃a0,sh0 x=a0:=⟨_,rfl⟩;obtain⟨a1,ha1⟩:∃a1,sh1 x=a1:=⟨_,rfl⟩;have HX:Hid (x<10):=hx;have HA:Hid (sh0 x=a0/\sh1 x=a1/\a0<8/\a1<8):=⟨ha0,ha1,ha0 ▸ j68 x,ha1 ▸ j69 x⟩;have HC0:Hid (∀wr,Sh wr->wr.cell? ⟨1,x*4,none⟩=some (.int .i64 a0)/\wr.cell? ⟨1,x*4+1,none⟩=some (.int .i64 a1)/\wr.cell? ⟨1,x*4+2,none⟩=some (.int .i64 (shP x))/\wr.cell? ⟨1,x*4+3,none⟩=some (.bool (shC x))):=fun wr h=>by
   obtain⟨e1,e2,e3,e4⟩:=j6A x HX.out;rw[ha0] at e1;rw[ha1] at e2;exact⟨h.cell e1,h.cell e2,h.cell e3,h.cell e4⟩
  have HFD:Hid (∀(i:Nat) h l' wr,i<8->Rr wr r l' (kk+1)->Blk wr nb (h.cells (.slice none 0 0)) 64->Calls Tryz.prog 197 #[.pointer (some ⟨r,0,none⟩),.pointer (some ⟨nb,0,none⟩),.int .i64 i] wr fun e w'=>RfP r nb (.slice none 0 0) wr (kk+1) (rF i h l') e w'):=fun i h l' wr hi h1 h2=>jCn r nb l' (kk+1) h (.slice none 0 0) i wr hi (by have:=HS2.out.2.2.2;omega) h1 h2
  have HKW:Hid (∀wr,Kp W2 wr (fun j=>j=r∨j=nb)->Kp w wr (fun j=>j=r)):=fun wr k=>HS2.out.2.1.trans' k (fun i hi e=>by
   rcases e with e|e
   ·exact e
   ·have:=HS2.out.2.2.2.2.1;omega)
  obtain⟨lc0,lc1,-,-⟩:=HC0.out W2 HS2.out.2.2.1;clear ha0 ha1;go_wp2_with fail;clear lc0 lc1 lk;go_loopw[34] (fun si wr=>∃i:Nat,i<=2/\si=.int .i64 i/\∃h l',rFs x d0 i=some (h,l')/\Rr wr r l' (kk+1)/\Blk wr nb (h.cells (.slice none 0 0)) 64/\Kp W2 wr (fun j=>j=r∨j=nb)) (fun si _=>(2-RowKit.intOf si).toNat)
  case atStart=>exact⟨0,by decide,by simp,_,_,j5G x d0,HR2.out,HB2.out,Kp.refl _ _⟩
  case round=>
   clear HR2 HB2;obtain⟨i,hi,rfl,h,l',he,hr2,hb2,k2⟩:=hrel;have HE:Hid (rFs x d0 i=some (h,l')):=he;have HR3:Hid (Rr wr r l' (kk+1)):=hr2;have HB3:Hid (Blk wr nb (h.cells (.slice none 0 0)) 64):=hb2;have HK3:Hid (Kp W2 wr (fun j=>j=r∨j=nb)):=k2;have hic:i=0∨i=1∨i=2:=(by omega);clear he hr2 hb2 k2;rcases hic with rfl|rfl|rfl
   ·clear hi;have hix:=(fun wq=>j1c (.int .i64 a0) (.int .i64 a1) 0 wq (.inl rfl));simp only[if_true] at hix;go_wp2_with fail;clear hix;have hE1:=jCC HE.out;rw[HA.out.1] at hE1;have HE1:Hid (rFs x d0 1=rF a0 h l'):=hE1;refine(HFD.out a0 h l' wr HA.out.2.2.1 HR3.out HB3.out).mono ?_;clear hE1;intro e w3 hr3;cases hq:rF a0 h l' with
    | none=>
     rw[hq] at hr3;cases hr3 with
     | no kp3=>
      have HFN:Hid (RnP r w o (.panicked ef) w3):=HNO.out w3 (by rw[HO1.out,j2n HX.out,jCB (HE1.out.trans hq)];rfl) (HKW.out w3 (HK3.out.trans kp3));go_wp2_with fail;exact⟨rfl,HFN.out⟩
    | some p=>
     obtain⟨h',l2⟩:=p;rw[hq] at hr3;cases hr3 with
     | ok g1 g2 kp3=>
      have HG:Hid (rFs x d0 1=some (h',l2)/\Rr w3 r l2 (kk+1)/\Blk w3 nb (h'.cells (.slice none 0 0)) 64/\Kp W2 w3 (fun j=>j=r∨j=nb)):=⟨HE1.out.trans hq,g1,g2,HK3.out.trans kp3⟩;clear g1 g2 kp3 hq;go_wp2_with fail;go_roundw
      case rel=>exact⟨1,by decide,by go_num,h',l2,HG.out⟩
      case measure=>simp only[RowKit.intOf];decide
   ·clear hi;have hix:=(fun wq=>j1c (.int .i64 a0) (.int .i64 a1) 1 wq (.inr rfl));simp only[Int.reduceEq,if_false] at hix;go_wp2_with fail;clear hix;have hE1:=jCD HE.out;rw[HA.out.2.1] at hE1;have HE1:Hid (rFs x d0 2=rF a1 h l'):=hE1;refine(HFD.out a1 h l' wr HA.out.2.2.2 HR3.out HB3.out).mono ?_;clear hE1;intro e w3 hr3;cases hq:rF a1 h l' with
    | none=>
     rw[hq] at hr3;cases hr3 with
     | no kp3=>
      have HFN:Hid (RnP r w o (.panicked ef) w3):=HNO.out w3 (by rw[HO1.out,j2n HX.out,HE1.out.trans hq];rfl) (HKW.out w3 (HK3.out.trans kp3));go_wp2_with fail;exact⟨rfl,HFN.out⟩
    | some p=>
     obtain⟨h',l2⟩:=p;rw[hq] at hr3;cases hr3 with
     | ok g1 g2 kp3=>
      have HG:Hid (rFs x d0 2=some (h',l2)/\Rr w3 r l2 (kk+1)/\Blk w3 nb (h'.cells (.slice none 0 0)) 64/\Kp W2 w3 (fun j=>j=r∨j=nb)):=⟨HE1.out.trans hq,g1,g2,HK3.out.trans kp3⟩;clear g1 g2 kp3 hq;go_wp2_with fail;go_roundw
      case rel=>exact⟨2,by decide,by go_num,h',l2,HG.out⟩
      case measure=>simp only[RowKit.intOf];decide
   ·clear hi HFD;rw[show ((2:Nat):Int)=2 from rfl];have lk1:wr.cell? ⟨nb,0,none⟩=some (.int .i64 x):=(by rw[<- jCA HE.out];exact HB3.out.cell rfl);obtain⟨-,-,lc2,lc3⟩:=HC0.out wr (HSM.out wr HK3.out);have HO2:Hid (o=(if shC x=true then (rNum 1 l').map fun c=>((h,c.1),c.2) else some ((h,shP x),l')).bind fun q=>(F2 (rNd d) q.1.2 (f-1) q.2).map fun r=>(.mk q.1.1 r.1,r.2.1,r.2.2)):=by
     show _=_;rw[HO1.out,j2n HX.out,HE.out]
     rfl
    have HP:Hid (shP x<256):=by
     show _<_;exact jDt HX.out
    generalize shP x=sp at *;generalize shC x=cb at *
    go_upto_if 50 with fail
    go_cut[6] from 51 to 53 (fun v wz=>∃(c:Nat) (l2:List UInt8),v=.int .i64 c/\c<256/\o=((F2 (rNd d) c (f-1) l2).map fun r=>(.mk h r.1,r.2.1,r.2.2))/\Rr wz r l2 (kk+1)/\Blk wz nb (h.cells (.slice none 0 0)) 64/\Kp W2 wz (fun j=>j=r∨j=nb))
    case first=>
     cases cb
     ·go_wp2_with fail;go_meet
      case rel=>
       exact⟨sp,l',rfl,HP.out,by rw[HO2.out];rfl,HR3.out,HB3.out,HK3.out⟩
     ·have HC:Hid (Calls Tryz.prog 173 #[.pointer (some ⟨r,0,none⟩)] wr fun e w'=>RdP r wr (kk+1) ((rNum 1 l').map fun p=>(.int .i64 (p.1:Nat),p.2)) e w'):=T9 r l' (kk+1) wr HR3.out;go_wp2_with fail;refine HC.out.mono ?_;intro e w3 hr3;cases hq:rNum 1 l' with
      | none=>
       rw[hq] at hr3;cases hr3 with
       | no kp3=>
        have HFN:Hid (RnP r w o (.panicked ef) w3):=HNO.out w3 (by rw[HO2.out];simp only[if_true];rw[hq];rfl) (HKW.out w3 (HK3.out.trans (kp3.mono (fun _ _ e=>.inl e))));go_wp2_with fail;exact⟨rfl,HFN.out⟩
      | some p=>
       obtain⟨c,l2⟩:=p;rw[hq] at hr3;cases hr3 with
       | ok g1 kp3=>
        have HG:Hid (c<256/\o=((F2 (rNd d) c (f-1) l2).map fun r=>(.mk h r.1,r.2.1,r.2.2))/\Rr w3 r l2 (kk+1)/\Blk w3 nb (h.cells (.slice none 0 0)) 64/\Kp W2 w3 (fun j=>j=r∨j=nb)):=⟨Y8 hq,by rw[HO2.out];simp only[if_true];rw[hq];rfl,g1,HB3.out.kp kp3 (fun e=>by have:=HS2.out.2.2.2;omega),HK3.out.trans (kp3.mono (fun _ _ e=>.inl e))⟩;clear g1 kp3 hq;go_wp2_with fail;go_meet
        case rel=>exact⟨c,l2,rfl,HG.out⟩
    case rest=>
     clear HR3 HB3 HK3 HO2 HO1 HE lk1 lc2 lc3 HC0 HA HP;obtain⟨c,l2,rfl,hc,ho3,hr3,hb3,k3⟩:=hcut;have HO3:Hid (o=((F2 (rNd d) c (f-1) l2).map fun r=>(.mk h r.1,r.2.1,r.2.2))):=ho3;have HR3:Hid (Rr wc r l2 (kk+1)):=hr3;have HB3:Hid (Blk wc nb (h.cells (.slice none 0 0)) 64):=hb3;have HK3:Hid (Kp W2 wc (fun j=>j=r∨j=nb)):=k3;clear ho3 hr3 hb3 k3;go_wp2_with fail;go_loopw[54] (fun si wr=>∃(i:Nat) (us:List Nd) (f':Nat) (l':List UInt8) (sl:Value) (fp:List Nat),i<=c/\si=.int .i64 i/\us.length=i/\f'<=f-1/\F2 (rNd d) i (f-1) l2=some (us,f',l')/\Rr wr r l' (256-(f':Int))/\Blk wr nb (h.cells sl) 64/\Own wr (nb+1) sl (.mk h us) fp/\Kp W2 wr (fun j=>j=r∨j=nb)) (fun si _=>((c:Int)-RowKit.intOf si).toNat)
     case atStart=>
      refine⟨0,[],f-1,l2,.slice none 0 0,[],Nat.zero_le _,by simp,rfl,Nat.le_refl _,rfl,?_,HB3.out,?_,HK3.out⟩
      ·rw[<- HF.out.1];exact HR3.out
      ·exact⟨by rw[E6];exact .inl ⟨rfl,rfl,rfl⟩,List.nodup_nil,fun b hb=>by simp at hb⟩
     case round=>
      clear HR3 HB3 HK3;obtain⟨i,us,f',l',sl,fp,hi,rfl,hul,hf',hm,hr4,hb4,hown,k4⟩:=hrel;obtain⟨p0,cv,rfl⟩:=jBa hown;rw[hul] at hb4 hown;obtain⟨xs,hxs⟩:=hown.row;have HUL:Hid (us.length=i):=hul;have HM:Hid (F2 (rNd d) i (f-1) l2=some (us,f',l')):=hm;have HF2:Hid (f'<=f-1):=hf';have HR4:Hid (Rr wr r l' (256-(f':Int))):=hr4;have HB4:Hid (Blk wr nb (h.cells (.slice p0 i cv)) 64):=hb4;have HOW:Hid (Own wr (nb+1) (.slice p0 i cv) (.mk h us) fp):=hown;have HXS:Hid (wr.ownsRow (nb+1) 64 15 (.slice p0 i cv) us.length xs):=hxs;have HK4:Hid (Kp W2 wr (fun j=>j=r∨j=nb)):=k4;have HSZ:Hid (r<nb/\nb+1<=wr.heap.size):=⟨by have:=HS2.out.2.2.2;omega,by have:=HS2.out.2.2.2.2.2;have:=k4.size;omega⟩;have HSR:Hid (Sh wr):=HSM.out wr k4;clear hul hm hf' hr4 hb4 hown hxs k4;by_cases hlt:i<c
      ·have hlt':(i:Int)<(c:Int):=(by omega);have hkb:(i:Int)+1<=9223372036854775807:=(by omega);have hi0:(0:Int)<=(i:Int):=(by omega);have HCALL:Hid (∀wq,Kp wr wq Nul->Calls Tryz.prog 175 #[.pointer (some ⟨r,0,none⟩)] wq fun e w'=>RnP r wq (rNd d f' l') e w'):=(fun wq k=>IH.out f' l' wq (by have:=HF2.out;have:=HF.out;omega) (by have:=HF2.out;have:=HF.out;omega) (HR4.out.kp k (fun x=>x)) (HSR.out.kp k (fun x=>x)));have HS:Hid (∀wq,Kp wr wq (fun j=>j=r∨nb+1<=j)->wq.cell? ⟨nb,14,none⟩=some (.slice p0 i cv)):=(fun wq k=>(HB4.out.kp k (fun e=>by have:=HSZ.out;omega)).cell rfl);obtain⟨i0,hinf,hz0,hz1,hz2⟩:=j1A;go_wp2_with fail;refine j3I (fun w':World=>Kp wr w' (fun j=>j=r∨nb+1<=j)) (fun j=>decide (6<=j)) (by kernel_rfl) ((Kp.refl _ _).drew) (fun hHeld=>?_);refine I8 (i:=0) (v :=?_) (some 56) rfl rfl (by kernel_rfl) (fun _ _ _ h=>h) (Or.inl ⟨by rfl,?_⟩) hHeld ?_;rotate_left
       ·intro w' hSw;have s0:=HS.out _ hSw;clear hSw;go_simp;try with_reducible rfl
       simp only[Act.put,Sz0,Sz1,Sz2];refine I8 (i:=1) (v :=?_) (some 57) rfl rfl (by kernel_rfl) (fun _ _ _ h=>h) (Or.inl ⟨by rfl,?_⟩) hHeld ?_;rotate_left
       ·intro w' hSw;have s0:=HS.out _ hSw;clear hSw;go_simp;try with_reducible rfl
       simp only[Act.put,Sz0,Sz1,Sz2];refine I8 (i:=2) (v :=?_) (some 58) rfl rfl (by kernel_rfl) (fun _ _ _ h=>h) (Or.inl ⟨by rfl,?_⟩) hHeld ?_;rotate_left
       ·intro w' hSw;have s0:=HS.out _ hSw;clear hSw;go_simp;try with_reducible rfl
       simp only[Act.put,Sz0,Sz1,Sz2];refine I8 (i:=4) (v :=?_) (some 60) rfl rfl (by kernel_rfl) (fun _ _ _ h=>h) (Or.inl ⟨by rfl,?_⟩) hHeld ?_;rotate_left
       ·intro w' hSw;have s0:=HS.out _ hSw;clear hSw;go_simp;try with_reducible rfl
       simp only[Act.put,Sz0,Sz1,Sz2];have HC256:Hid (i<256):=(by show _<_;omega);refine j1m (i:=3) (j:=5) (by kernel_rfl) rfl rfl rfl rfl (fun K hK=>?_) (fun K hK=>?_)
       ·go_simp;refine(HCALL.out _ ((Kp.refl _ _).drew)).mono ?_;intro e w3 hr3;cases hq:rNd d f' l' with
        | none=>
         rw[hq] at hr3;cases hr3 with
         | no kp3=>
          have HFN:Hid (RnP r w o (.panicked ef) w3):=HNO.out w3 (by rw[HO3.out,j5I HM.out hlt hq];rfl) (HKW.out w3 (HK4.out.trans ((Kp.refl wr _).drew.trans (kp3.mono (fun _ _ e=>.inl e)))));go_wp2_with fail;exact⟨rfl,HFN.out⟩
        | some p=>
         obtain⟨u,f2,l3⟩:=p;rw[hq] at hr3;cases hr3 with
         | @ok _ _ _ su fu _ g1 g2 kp3=>
          have kd:Kp wr w3 (fun j=>j=r):=((Kp.refl wr _).drew).trans kp3;have HMN:Hid (F2 (rNd d) (i+1) (f-1) l2=some (us++[u],f2,l3)/\f2<=f-1):=⟨j5H HM.out hq,by have:=j5J (by have:=HF2.out;have:=HF.out;omega) hq;have:=HF2.out;omega⟩;have HG:Hid (Kp wr (w3.alloc (.cells (zHd.cells (.slice none 0 0)).toArray 64)) (fun j=>j=r)/\Own (w3.alloc (.cells (zHd.cells (.slice none 0 0)).toArray 64)) wr.heap.size su u fu/\Blk (w3.alloc (.cells (zHd.cells (.slice none 0 0)).toArray 64)) w3.heap.size (zHd.cells (.slice none 0 0)) 64/\Rr (w3.alloc (.cells (zHd.cells (.slice none 0 0)).toArray 64)) r l3 (256-(f2:Int))):=⟨kd.alloc _,g2.kp ((Kp.refl _ Nul).alloc _) (fun _ _ x=>x),Blk.new _ _ _,g1.alloc _⟩;refine hK.out _ _ (fun _=>kd.mono (fun _ _ e=>.inl e)) ?_;have HKD:Hid (Kp wr w3 (fun j=>j=r)):=kd
          clear hK K hHeld g1 g2 kp3 hq HCALL HS kd;refine L8 (i:=5) (by kernel_rfl) rfl rfl (fun K hK=>?_);go_simp;refine hK.out _ _ (fun _=>(HKD.out.mono (fun _ _ e=>.inl e)).alloc _) ?_;clear hK K HKD;refine L8 (i:=6) (by kernel_rfl) rfl rfl (fun K hK=>?_);refine Z5 _ (.tmp 57) (.tmp 61) 62 rfl (nb+1) 64 i0 _ 15 128 Tryz.underlying62 hinf hz0 hz1 hz2 rfl (by decide) (.slice p0 i cv) us.length xs rfl (j2k HXS.out HG.out.1 (fun j hj e=>by have:=HSZ.out;omega)) ⟨w3.heap.size,0,none⟩ 1 1 (zHd.cells (.slice none 0 0)) rfl rfl ?c1 ?c2 (by decide) ?c3 ?c4 ?c5 ?_
          case c1=>
           intro j u' hj;rw[Q0,Nat.zero_add];exact HG.out.2.2.1.cell hj
          case c2=>exact j0a zHd rfl
          case c3=>rw[HUL.out];unfold maxLen;have:=HC256.out;omega
          case c4=>rw[HUL.out];have:=HC256.out;omega
          case c5=>exact Nat.le_trans HSZ.out.2 HG.out.1.size
          intro g c' w5 ho hgr ht;obtain⟨hgB,hth,⟨fp',hown6⟩,k5,k6⟩:=j53 HOW.out HXS.out (by have:=HSZ.out;omega) HSZ.out.2 HG.out.1 HG.out.2.1 rfl ho hgr ht;have hS5:Kp wr w5 (fun j=>j=r∨nb+1<=j):=(HG.out.1.mono (fun _ _ e=>.inl e)).trans (k5.mono (fun _ _ e=>.inr e));have k6w:Kp wr (w5.setCells g (us.length*15) (u.hd.cells su)) (fun j=>j=r∨nb+1<=j):=(HG.out.1.mono (fun _ _ e=>.inl e)).trans (k6.mono (fun _ _ e=>.inr e));have hR6:Rr (w5.setCells g (us.length*15) (u.hd.cells su)) r l3 (256-(f2:Int)):=HG.out.2.2.2.kp k6 (fun e=>by have:=HSZ.out;omega);rw[HUL.out] at hth hown6 k6w hR6;obtain⟨w6,hw6⟩:∃w6,w5.setCells g (i*15) (u.hd.cells su)=w6:=⟨_,rfl⟩;rw[hw6] at hown6 k6w hR6;have hB6:Blk w6 nb (h.cells (.slice p0 i cv)) 64:=HB4.out.kp k6w (fun e=>by have:=HSZ.out;omega);have c6:w6.cell? ⟨nb,14,none⟩=some (.slice p0 i cv):=hB6.cell rfl;have f6:w6.frozen? ⟨nb,14,none⟩=false:=hB6.froz 14
          have HTH:Hid (w5.there g (i*15) 15):=hth;have HW6:Hid (w5.setCells g (i*15) (u.hd.cells su).toArray.toList=w6):=hw6;have hB5:Blk w5 nb (h.cells (.slice p0 i cv)) 64:=HB4.out.kp hS5 (fun e=>by have:=HSZ.out;omega);have c5:w5.cell? ⟨nb,14,none⟩=some (.slice p0 i cv):=hB5.cell rfl;have f5:w5.frozen? ⟨nb,14,none⟩=false:=hB5.froz 14;have HCM:Hid ((w5.setCell ⟨nb,14,none⟩ (.slice (some ⟨g,0,none⟩) (i+1) c')).setCells g (i*15) (u.hd.cells su).toArray.toList=w6.setCell ⟨nb,14,none⟩ (.slice (some ⟨g,0,none⟩) (i+1) c')):=by
           show _=_;rw[<- hw6];exact j30 (fun e=>by have e:nb=g:=e;omega) _ _ _
          have HTH2:Hid ((w5.setCell ⟨nb,14,none⟩ (.slice (some ⟨g,0,none⟩) (i+1) c')).there g (i*15) 15):=World.there_setCells hth nb 14 [.slice (some ⟨g,0,none⟩) (i+1) c'];have H7:Hid (Rr (w6.setCell ⟨nb,14,none⟩ (.slice (some ⟨g,0,none⟩) (i+1) c')) r l3 (256-(f2:Int))/\Blk (w6.setCell ⟨nb,14,none⟩ (.slice (some ⟨g,0,none⟩) (i+1) c')) nb (h.cells (.slice (some ⟨g,0,none⟩) (i+1) c')) 64/\Own (w6.setCell ⟨nb,14,none⟩ (.slice (some ⟨g,0,none⟩) (i+1) c')) (nb+1) (.slice (some ⟨g,0,none⟩) (i+1) c') (.mk h (us++[u])) fp'/\Kp W2 (w6.setCell ⟨nb,14,none⟩ (.slice (some ⟨g,0,none⟩) (i+1) c')) (fun j=>j=r∨j=nb)):=by
           refine⟨hR6.other _ _ (fun e=>by have e:r=nb:=e;have:=HSZ.out;omega),hB6.set 14 _,hown6.kp ((Kp.refl _ (fun j=>j=nb)).setCell _ _ (.inr rfl)) (fun b hb e=>by have:=(hown6.new b hb).1;omega),?_⟩;refine(HK4.out.trans' k6w (fun j hj e=>?_)).setCell _ _ (.inr (.inr rfl));rcases e with e|e
           ·exact .inl e
           ·have:=HS2.out.2.2.2.2.2;omega
          have ho1:su.oneCell'=true:=HG.out.2.1.own.one;have HO1:Hid (su.oneCell'=true):=ho1;refine hK.out _ _ (fun h=>absurd h (by decide)) ?_;clear hK K ho hgr ht hown6 k5 k6 hth hS5 hgB k6w hR6 hw6 hB6 ho1 hB5;rw[HUL.out];simp only[Act.put,List.setIfInBounds_toArray];refine j6r (S':=fun _=>True) (Z':=fun _=>false) (by kernel_rfl) ?_;have hii:(i:Int)<(i:Int)+1:=(by omega);refine I8 (i:=7) (v :=?_) (some 63) rfl rfl (by kernel_rfl) (fun _ _ _ h=>h) (Or.inl ⟨by rfl,?_⟩) trivial ?_;rotate_left
          ·intro w' hSw;go_simp;try with_reducible rfl
          simp only[Act.put];refine I8 (i:=9) (v :=?_) (some 64) rfl rfl (by kernel_rfl) (fun _ _ _ h=>h) (Or.inl ⟨by rfl,?_⟩) trivial ?_;rotate_left
          ·intro w' hSw;go_simp;try with_reducible rfl
          simp only[Act.put];refine j1m (i:=8) (j:=10) (by kernel_rfl) rfl rfl rfl rfl (fun K hK=>?_) (fun K hK=>?_)
          ·refine wp_store_mid 64 (.tmp 63) (.tmp 59) rfl g (i*15) (u.hd.cells su).toArray rfl rfl HTH.out z6 (u.hd.one HO1.out) ?_;rw[HW6.out];refine hK.out _ _ (fun _=>trivial) ?_;clear hK K;refine L8 (i:=10) (by kernel_rfl) rfl rfl (fun K hK=>?_);go_simp;refine hK.out _ _ (fun _=>trivial) ?_;clear hK K c6 f6 c5 f5;refine Z4 (by kernel_rfl) ?_;go_wp2_with fail;go_roundw
           case rel=>exact⟨i+1,us++[u],f2,l3,_,fp',by omega,by go_num,by rw[List.length_append,HUL.out];rfl,HMN.out.2,HMN.out.1,H7.out⟩
           case measure=>simp only[RowKit.intOf];omega
          ·go_simp;refine hK.out _ _ (fun _=>trivial) ?_;clear hK K;refine L8 (i:=8) (by kernel_rfl) rfl rfl (fun K hK=>?_);refine wp_store_mid 64 (.tmp 63) (.tmp 59) rfl g (i*15) (u.hd.cells su).toArray rfl rfl HTH2.out z6 (u.hd.one HO1.out) ?_;rw[HCM.out];refine hK.out _ _ (fun _=>trivial) ?_;clear hK K c6 f6 c5 f5;refine Z4 (by kernel_rfl) ?_;go_wp2_with fail;go_roundw
           case rel=>exact⟨i+1,us++[u],f2,l3,_,fp',by omega,by go_num,by rw[List.length_append,HUL.out];rfl,HMN.out.2,HMN.out.1,H7.out⟩
           case measure=>simp only[RowKit.intOf];omega
       ·go_simp;refine hK.out _ _ (fun _=>((Kp.refl _ _).drew).alloc _) ?_;clear hK K hHeld HS;refine L8 (i:=3) (by kernel_rfl) rfl rfl (fun K hK=>?_);go_simp;refine(HCALL.out (wr.drew.alloc (.cells (zHd.cells (.slice none 0 0)).toArray 64)) (((Kp.refl _ _).drew).alloc _)).mono ?_;intro e w3 hr3;cases hq:rNd d f' l' with
        | none=>
         rw[hq] at hr3;cases hr3 with
         | no kp3=>
          have HFN:Hid (RnP r w o (.panicked ef) w3):=HNO.out w3 (by rw[HO3.out,j5I HM.out hlt hq];rfl) (HKW.out w3 (HK4.out.trans (((Kp.refl wr _).drew.alloc _).trans (kp3.mono (fun _ _ e=>.inl e)))));go_wp2_with fail;exact⟨rfl,HFN.out⟩
        | some p=>
         obtain⟨u,f2,l3⟩:=p;rw[hq] at hr3;cases hr3 with
         | @ok _ _ _ su fu _ g1 g2 kp3=>
          have kd:Kp wr w3 (fun j=>j=r):=(((Kp.refl wr _).drew).alloc _).trans kp3;have HMN:Hid (F2 (rNd d) (i+1) (f-1) l2=some (us++[u],f2,l3)/\f2<=f-1):=⟨j5H HM.out hq,by have:=j5J (by have:=HF2.out;have:=HF.out;omega) hq;have:=HF2.out;omega⟩;have HG:Hid (Kp wr w3 (fun j=>j=r)/\Own w3 wr.heap.size su u fu/\Blk w3 wr.heap.size (zHd.cells (.slice none 0 0)) 64/\Rr w3 r l3 (256-(f2:Int))):=⟨kd,g2.le (by rw[World.size_alloc];exact Nat.le_succ _),(Blk.new wr.drew _ _).kp kp3 (fun e=>by have e:wr.heap.size=r:=e;have:=HSZ.out;omega),g1⟩;refine hK.out _ _ (fun _=>kd.mono (fun _ _ e=>.inl e)) ?_;clear hK K g1 g2 kp3 hq HCALL kd;refine L8 (i:=6) (by kernel_rfl) rfl rfl (fun K hK=>?_);refine Z5 _ (.tmp 57) (.tmp 61) 62 rfl (nb+1) 64 i0 _ 15 128 Tryz.underlying62 hinf hz0 hz1 hz2 rfl (by decide) (.slice p0 i cv) us.length xs rfl (j2k HXS.out HG.out.1 (fun j hj e=>by have:=HSZ.out;omega)) ⟨wr.heap.size,0,none⟩ 1 1 (zHd.cells (.slice none 0 0)) rfl rfl ?c1 ?c2 (by decide) ?c3 ?c4 ?c5 ?_
          case c1=>
           intro j u' hj;rw[Q0,Nat.zero_add];exact HG.out.2.2.1.cell hj
          case c2=>exact j0a zHd rfl
          case c3=>rw[HUL.out];unfold maxLen;have:=HC256.out;omega
          case c4=>rw[HUL.out];have:=HC256.out;omega
          case c5=>exact Nat.le_trans HSZ.out.2 HG.out.1.size
          intro g c' w5 ho hgr ht;obtain⟨hgB,hth,⟨fp',hown6⟩,k5,k6⟩:=j53 HOW.out HXS.out (by have:=HSZ.out;omega) HSZ.out.2 HG.out.1 HG.out.2.1 rfl ho hgr ht;have hS5:Kp wr w5 (fun j=>j=r∨nb+1<=j):=(HG.out.1.mono (fun _ _ e=>.inl e)).trans (k5.mono (fun _ _ e=>.inr e));have k6w:Kp wr (w5.setCells g (us.length*15) (u.hd.cells su)) (fun j=>j=r∨nb+1<=j):=(HG.out.1.mono (fun _ _ e=>.inl e)).trans (k6.mono (fun _ _ e=>.inr e));have hR6:Rr (w5.setCells g (us.length*15) (u.hd.cells su)) r l3 (256-(f2:Int)):=HG.out.2.2.2.kp k6 (fun e=>by have:=HSZ.out;omega);rw[HUL.out] at hth hown6 k6w hR6;obtain⟨w6,hw6⟩:∃w6,w5.setCells g (i*15) (u.hd.cells su)=w6:=⟨_,rfl⟩;rw[hw6] at hown6 k6w hR6;have hB6:Blk w6 nb (h.cells (.slice p0 i cv)) 64:=HB4.out.kp k6w (fun e=>by have:=HSZ.out;omega);have c6:w6.cell? ⟨nb,14,none⟩=some (.slice p0 i cv):=hB6.cell rfl;have f6:w6.frozen? ⟨nb,14,none⟩=false:=hB6.froz 14
          have HTH:Hid (w5.there g (i*15) 15):=hth;have HW6:Hid (w5.setCells g (i*15) (u.hd.cells su).toArray.toList=w6):=hw6;have hB5:Blk w5 nb (h.cells (.slice p0 i cv)) 64:=HB4.out.kp hS5 (fun e=>by have:=HSZ.out;omega);have c5:w5.cell? ⟨nb,14,none⟩=some (.slice p0 i cv):=hB5.cell rfl;have f5:w5.frozen? ⟨nb,14,none⟩=false:=hB5.froz 14;have HCM:Hid ((w5.setCell ⟨nb,14,none⟩ (.slice (some ⟨g,0,none⟩) (i+1) c')).setCells g (i*15) (u.hd.cells su).toArray.toList=w6.setCell ⟨nb,14,none⟩ (.slice (some ⟨g,0,none⟩) (i+1) c')):=by
           show _=_;rw[<- hw6];exact j30 (fun e=>by have e:nb=g:=e;omega) _ _ _
          have HTH2:Hid ((w5.setCell ⟨nb,14,none⟩ (.slice (some ⟨g,0,none⟩) (i+1) c')).there g (i*15) 15):=World.there_setCells hth nb 14 [.slice (some ⟨g,0,none⟩) (i+1) c'];have H7:Hid (Rr (w6.setCell ⟨nb,14,none⟩ (.slice (some ⟨g,0,none⟩) (i+1) c')) r l3 (256-(f2:Int))/\Blk (w6.setCell ⟨nb,14,none⟩ (.slice (some ⟨g,0,none⟩) (i+1) c')) nb (h.cells (.slice (some ⟨g,0,none⟩) (i+1) c')) 64/\Own (w6.setCell ⟨nb,14,none⟩ (.slice (some ⟨g,0,none⟩) (i+1) c')) (nb+1) (.slice (some ⟨g,0,none⟩) (i+1) c') (.mk h (us++[u])) fp'/\Kp W2 (w6.setCell ⟨nb,14,none⟩ (.slice (some ⟨g,0,none⟩) (i+1) c')) (fun j=>j=r∨j=nb)):=by
           refine⟨hR6.other _ _ (fun e=>by have e:r=nb:=e;have:=HSZ.out;omega),hB6.set 14 _,hown6.kp ((Kp.refl _ (fun j=>j=nb)).setCell _ _ (.inr rfl)) (fun b hb e=>by have:=(hown6.new b hb).1;omega),?_⟩;refine(HK4.out.trans' k6w (fun j hj e=>?_)).setCell _ _ (.inr (.inr rfl));rcases e with e|e
           ·exact .inl e
           ·have:=HS2.out.2.2.2.2.2;omega
          have ho1:su.oneCell'=true:=HG.out.2.1.own.one;have HO1:Hid (su.oneCell'=true):=ho1;refine hK.out _ _ (fun h=>absurd h (by decide)) ?_;clear hK K ho hgr ht hown6 k5 k6 hth hS5 hgB k6w hR6 hw6 hB6 ho1 hB5;rw[HUL.out];simp only[Act.put,List.setIfInBounds_toArray];refine j6r (S':=fun _=>True) (Z':=fun _=>false) (by kernel_rfl) ?_;have hii:(i:Int)<(i:Int)+1:=(by omega);refine I8 (i:=7) (v :=?_) (some 63) rfl rfl (by kernel_rfl) (fun _ _ _ h=>h) (Or.inl ⟨by rfl,?_⟩) trivial ?_;rotate_left
          ·intro w' hSw;go_simp;try with_reducible rfl
          simp only[Act.put];refine I8 (i:=9) (v :=?_) (some 64) rfl rfl (by kernel_rfl) (fun _ _ _ h=>h) (Or.inl ⟨by rfl,?_⟩) trivial ?_;rotate_left
          ·intro w' hSw;go_simp;try with_reducible rfl
          simp only[Act.put];refine j1m (i:=8) (j:=10) (by kernel_rfl) rfl rfl rfl rfl (fun K hK=>?_) (fun K hK=>?_)
          ·refine wp_store_mid 64 (.tmp 63) (.tmp 59) rfl g (i*15) (u.hd.cells su).toArray rfl rfl HTH.out z6 (u.hd.one HO1.out) ?_;rw[HW6.out];refine hK.out _ _ (fun _=>trivial) ?_;clear hK K;refine L8 (i:=10) (by kernel_rfl) rfl rfl (fun K hK=>?_);go_simp;refine hK.out _ _ (fun _=>trivial) ?_;clear hK K c6 f6 c5 f5;refine Z4 (by kernel_rfl) ?_;go_wp2_with fail;go_roundw
           case rel=>exact⟨i+1,us++[u],f2,l3,_,fp',by omega,by go_num,by rw[List.length_append,HUL.out];rfl,HMN.out.2,HMN.out.1,H7.out⟩
           case measure=>simp only[RowKit.intOf];omega
          ·go_simp;refine hK.out _ _ (fun _=>trivial) ?_;clear hK K;refine L8 (i:=8) (by kernel_rfl) rfl rfl (fun K hK=>?_);refine wp_store_mid 64 (.tmp 63) (.tmp 59) rfl g (i*15) (u.hd.cells su).toArray rfl rfl HTH2.out z6 (u.hd.one HO1.out) ?_;rw[HCM.out];refine hK.out _ _ (fun _=>trivial) ?_;clear hK K c6 f6 c5 f5;refine Z4 (by kernel_rfl) ?_;go_wp2_with fail;go_roundw
           case rel=>exact⟨i+1,us++[u],f2,l3,_,fp',by omega,by go_num,by rw[List.length_append,HUL.out];rfl,HMN.out.2,HMN.out.1,H7.out⟩
           case measure=>simp only[RowKit.intOf];omega
      ·have hie:i=c:=(by omega);subst hie;have hnl:¬((i:Int)<(i:Int)):=(by omega);have R3:Hid (wr.rangeAt nb 0 (h.cells (.slice p0 i cv))):=(fun j u hj=>by rw[Nat.zero_add];exact HB4.out.cell hj);have hBr:Blk wr w.heap.size (zHd.cells (.slice none 0 0)) 64:=HS2.out.1.kp HK4.out (fun e=>by have:=HS2.out.2.2.2;omega);have T1:Hid (wr.there w.heap.size 0 15):=I1 hBr _ _ (by simp);obtain⟨W5,hW5⟩:∃W5,wr.setCells w.heap.size 0 (h.cells (.slice p0 i cv))=W5:=⟨_,rfl⟩;have HW5:Hid (wr.setCells w.heap.size 0 (h.cells (.slice p0 i cv))=W5):=hW5;have k5:Kp wr W5 (fun j=>j=w.heap.size):=(by rw[<- hW5];exact Q1 (fun j=>j=w.heap.size) rfl _ _ _);have E1:Hid (W5.heap[w.heap.size]? = some (.cells (h.cells (.slice p0 i cv)).toArray 64 (0,0))):=by
        show _=_;rw[<- hW5];exact T4 (cs:=(h.cells (.slice p0 i cv)).toArray) hBr (by simp)
       have HFIN:Hid (RnP r w o (.returned (h.val (.slice p0 i cv))) W5):=by
        refine RnP.fin_ok (t:=.mk h us) (f:=f') (l:=l') (fp:=fp) (by rw[HO3.out,HM.out];rfl) (HR4.out.kp k5 (fun e=>by have:=HS2.out.2.2.2;omega)) ((HOW.out.kp k5 (fun b hb e=>by have:=(HOW.out.new b hb).1;have:=HS2.out.2.2.2;omega)).le (by have:=HS2.out.2.2.2;omega)) ?_;exact(HKW.out wr HK4.out).trans' k5 (fun j hj e=>by omega)
       clear hBr hW5 k5 HM HO3 HR4 HOW HXS IH HNO;go_wp2_with (first|(refine wpList_load_mid rfl 64 (.tmp 3) rfl nb 0 rfl (h.cells (.slice p0 i cv)) _ R3.out Tryz.underlying64 rfl z6 ?_)|(refine L7 rfl 64 (.tmp 2) (.tmp 66) rfl w.heap.size 0 _ rfl rfl T1.out z6 (h.one rfl) W5 HW5.out ?_));refine bodyPost_ret (results_cell_row rfl _ _ w.heap.size 64 _ (0,0) _ rfl E1.out Tryz.underlying64 rfl z6) rfl ?_;exact HFIN.out
def rCtR (R:List UInt8->Option (Nd×Nat×List UInt8)) (l:List UInt8):Option (Ct×List UInt8):=(rNum 1 l).bind fun p=>if p.1=1 then (rVl p.2).map fun q=>(⟨1,q.1,zNd⟩,q.2) else if p.1=2 then (R p.2).map fun q=>(⟨2,zVl,q.1⟩,q.2.2) else none
def rCt (l:List UInt8):Option (Ct×List UInt8):=rCtR (rNd 256 256) l
inductive RcP (r:Nat) (w:World):Option (Ct×List UInt8)->Ending->World->Prop
 | ok {c:Ct} {l:List UInt8} {k:Int} {sl:Value} {fp:List Nat} {w':World} (h:Rr w' r l k) (own:Own w' w.heap.size sl c.t fp) (kp:Kp w w' (fun i=>i=r)):RcP r w (some (c,l)) (.returned (c.val sl)) w'
 | no {w':World} (kp:Kp w w' (fun i=>i=r)):RcP r w none (.panicked ef) w'
theorem RcP.fin_ok {r:Nat}{w:World}{o:Option (Ct×List UInt8)}{c:Ct}{l:List UInt8}{k:Int}{sl:Value}{fp:List Nat}{w':World}(e:o=some (c,l))(h:Rr w' r l k)(own:Own w' w.heap.size sl c.t fp)(kp:Kp w w' (fun i=>i=r)):RcP r w o (.returned (c.val sl)) w':=by rw[e];exact .ok h own kp
theorem RcP.fin_no {r:Nat}{w:World}{o:Option (Ct×List UInt8)}{w':World}(e:o=none)(kp:Kp w w' (fun i=>i=r)):RcP r w o (.panicked ef) w':=by rw[e];exact .no kp
theorem Own.nil (w:World)(B:Nat)(h:Hd):Own w B (.slice none 0 0) (.mk h []) []:=⟨by rw[E6];exact .inl ⟨rfl,rfl,rfl⟩,List.nodup_nil,fun b hb=>by simp at hb⟩
theorem jCb (R:List UInt8->Option (Nd×Nat×List UInt8))(r:Nat)(hrg:r ≠ 1)(l:List UInt8)(k:Int)(w:World)(h:Rr w r l k)(hsh:Sh w)(hR:∀d W,Rr W r d 0->Sh W->Calls Tryz.prog 175 #[.pointer (some ⟨r,0,none⟩)] W fun e w'=>RnP r W (R d) e w'):
 Calls Tryz.prog 135 #[.pointer (some ⟨r,0,none⟩)] w fun e w'=>RcP r w (rCtR R l) e w':=by
 obtain⟨o,ho⟩:∃o,rCtR R l=o:=⟨_,rfl⟩;rw[ho];have HO:Hid (o=rCtR R l):=ho.symm;obtain⟨W,hW⟩:∃W,w.alloc (.cells #[.int .i64 0,.int .i64 0,.float .f64 0,.string ⟨#[]⟩,.bool false,.int .i64 0,.int .i64 0,.int .i64 0,.float .f64 0,.string ⟨#[]⟩,.bool false,.int .i64 0,.int .i64 0,.int .i64 0,.bool false,.bool false,.int .i64 0,.int .i64 0,.bool false,.bool false,.slice none 0 0] 66)=W:=⟨_,rfl⟩;have HW:Hid (w.alloc (.cells #[.int .i64 0,.int .i64 0,.float .f64 0,.string ⟨#[]⟩,.bool false,.int .i64 0,.int .i64 0,.int .i64 0,.float .f64 0,.string ⟨#[]⟩,.bool false,.int .i64 0,.int .i64 0,.int .i64 0,.bool false,.bool false,.int .i64 0,.int .i64 0,.bool false,.bool false,.slice none 0 0] 66)=W):=hW;have HM0:Hid (∀v w,Calls Tryz.prog 133 #[v,.bool false] w fun e w'=>e=.panicked ef/\w'=w):=Y3;have HNO:Hid (∀w',o=none->Kp w w' (fun j=>j=r)->RcP r w o (.panicked ef) w'):=fun w' e kp=>RcP.fin_no e kp
 have HRG:Hid (r ≠ 1):=hrg;have hRW:Rr W r l k:=by rw[<- hW];exact h.alloc _
 have HWB:Hid (Blk W w.heap.size zC21 66/\Kp w W (fun j=>j=r)/\Sh W/\r<w.heap.size/\W.heap.size=w.heap.size+1):=by
  refine⟨by rw[<- hW];exact Blk.new w zC21 _,by rw[<- hW];exact(Kp.refl _ _).alloc _,by rw[<- hW];exact hsh.kp ((Kp.refl _ Nul).alloc _) (fun x=>x),h.lt,by rw[<- hW];exact World.size_alloc _ _⟩
 have HC:Hid (Calls Tryz.prog 173 #[.pointer (some ⟨r,0,none⟩)] W fun e w'=>RdP r W k ((rNum 1 l).map fun p=>(.int .i64 (p.1:Nat),p.2)) e w'):=T9 r l k W hRW;have HNODE:Hid (∀d W,Rr W r d 0->Sh W->Calls Tryz.prog 175 #[.pointer (some ⟨r,0,none⟩)] W fun e w'=>RnP r W (R d) e w'):=hR;clear h hsh hrg hW ho hRW hR;go_enter Tryz.func135,Tryz.ntmps135;go_wp2_with (first|(rw[HW.out])|fail);refine HC.out.mono ?_;intro e w1 hr;cases hq:rNum 1 l with
 | none=>
  rw[hq] at hr;cases hr with
  | no kp1=>
   have HFN:Hid (RcP r w o (.panicked ef) w1):=HNO.out w1 (by rw[HO.out,rCtR,hq];rfl) (HWB.out.2.1.trans kp1);go_wp2_with fail;exact⟨rfl,HFN.out⟩
 | some p=>
 obtain⟨x,d0⟩:=p;rw[hq] at hr;cases hr with
 | ok h1 kp1=>
 obtain⟨xi,hxi⟩:∃xi:Int,(x:Int)=xi:=⟨_,rfl⟩;simp only[hxi];have HO1:Hid (o=if x=1 then (rVl d0).map fun q=>(⟨1,q.1,zNd⟩,q.2) else if x=2 then (R d0).map fun q=>(⟨2,zVl,q.1⟩,q.2.2) else none):=by
  show _=_;rw[HO.out,rCtR,hq]
  rfl
 obtain⟨W2,hW2⟩:∃W2,w1.alloc (.cells #[.int .i64 xi,.int .i64 0,.float .f64 0,.string ⟨#[]⟩,.bool false,.int .i64 0,.int .i64 0,.int .i64 0,.float .f64 0,.string ⟨#[]⟩,.bool false,.int .i64 0,.int .i64 0,.int .i64 0,.bool false,.bool false,.int .i64 0,.int .i64 0,.bool false,.bool false,.slice none 0 0] 66)=W2:=⟨_,rfl⟩;have HW2:Hid (w1.alloc (.cells #[.int .i64 xi,.int .i64 0,.float .f64 0,.string ⟨#[]⟩,.bool false,.int .i64 0,.int .i64 0,.int .i64 0,.float .f64 0,.string ⟨#[]⟩,.bool false,.int .i64 0,.int .i64 0,.int .i64 0,.bool false,.bool false,.int .i64 0,.int .i64 0,.bool false,.bool false,.slice none 0 0] 66)=W2):=hW2;have HR2:Hid (Rr W2 r d0 k):=by show Rr _ _ _ _;rw[<- hW2];exact h1.alloc _
 have HB2:Hid (Blk W2 w1.heap.size (Ct.cells ⟨xi,zVl,zNd⟩ (.slice none 0 0)) 66):=by show Blk _ _ _ _;rw[<- hW2];exact Blk.new w1 (Ct.cells ⟨xi,zVl,zNd⟩ (.slice none 0 0)) _
 have HS2:Hid (Blk W2 w.heap.size zC21 66/\Kp w W2 (fun j=>j=r)/\Sh W2/\r<w.heap.size/\w.heap.size<w1.heap.size/\W2.heap.size=w1.heap.size+1):=by
  obtain⟨q1,q2,q3,q4,q5⟩:=HWB.out;have k2:Kp W W2 (fun j=>j=r):=by rw[<- hW2];exact kp1.alloc _
  have:=kp1.size;exact⟨q1.kp k2 (fun e=>by omega),q2.trans k2,q3.kp k2 (fun e=>HRG.out e.symm),q4,by omega,by rw[<- hW2,World.size_alloc]⟩
 have c1:W2.cell? ⟨r,1,none⟩=some (.int .i64 k):=HR2.out.cell rfl;have f1:W2.frozen? ⟨r,1,none⟩=false:=HR2.out.froz 1;clear h1 kp1 hq HC HO HWB hW2 HW;have hxc:x=1∨x=2∨(¬x=1/\¬x=2):=by omega
 rcases hxc with hx|hx|⟨hx1,hx2⟩
 ·have HO2:Hid (o=(rVl d0).map fun q=>(⟨1,q.1,zNd⟩,q.2)):=by show _=_;rw[HO1.out,if_pos hx]
  obtain rfl:xi=1:=by omega
  clear hx hxi HO1 c1 f1;have HV:Hid (Calls Tryz.prog 174 #[.pointer (some ⟨r,0,none⟩)] W2 fun e w'=>RdP r W2 k ((rVl d0).map fun p=>(p.1.val,p.2)) e w'):=jDi r d0 k W2 HR2.out;go_wp2_with (first|(refine I5 rfl 66 (.tmp 3) (.tmp 6) rfl _ _ _ _ _ (by first|rfl|simp) rfl rfl rfl E8 (Ct.one ⟨1,zVl,zNd⟩ rfl) ?_)|fail);rw[HW2.out];refine HV.out.mono ?_;intro e w3 hr3;cases hq:rVl d0 with
  | none=>
   rw[hq] at hr3;cases hr3 with
   | no kp3=>
    have HFN:Hid (RcP r w o (.panicked ef) w3):=HNO.out w3 (by rw[HO2.out,hq];rfl) (HS2.out.2.1.trans kp3);go_wp2_with fail;exact⟨rfl,HFN.out⟩
  | some p=>
  obtain⟨v,l3⟩:=p;rw[hq] at hr3;cases hr3 with
  | ok g1 kp3=>
  have hB3:Blk w3 w1.heap.size (Ct.cells ⟨1,zVl,zNd⟩ (.slice none 0 0)) 66:=HB2.out.kp kp3 (fun e=>by have:=HS2.out.2.2.2;omega);have T0:Hid (w3.there w1.heap.size 1 5):=I1 hB3 _ _ (by simp);obtain⟨W3,hW3⟩:∃W3,w3.setCells w1.heap.size 1 v.cells=W3:=⟨_,rfl⟩;have HW3:Hid (w3.setCells w1.heap.size 1 v.cells=W3):=hW3;have k3:Kp w3 W3 (fun j=>j=w1.heap.size):=by rw[<- hW3];exact Q1 (fun j=>j=w1.heap.size) rfl _ _ _
  have HX3:Hid (Blk W3 w1.heap.size (Ct.cells ⟨1,v,zNd⟩ (.slice none 0 0)) 66):=by
   show Blk _ _ _ _;rw[<- hW3];exact j0b (pre:=[.int .i64 1]) (old:=zVl.cells) (new:=v.cells) (post:=zHd.cells (.slice none 0 0)) rfl hB3
  have HAX:Hid (Blk W3 w.heap.size zC21 66):=(HS2.out.1.kp kp3 (fun e=>by have:=HS2.out.2.2.2;omega)).kp k3 (fun e=>by have:=HS2.out.2.2.2;omega);have HO1:Hid ((Value.slice none 0 0).oneCell'=true):=rfl;have HFIN:Hid (∀Y,Kp W3 Y (fun i=>i=w.heap.size)->RcP r w o (.returned (Ct.val ⟨1,v,zNd⟩ (.slice none 0 0))) Y):=fun Y ky=>by
   refine RcP.fin_ok (c:=⟨1,v,zNd⟩) (l:=l3) (k:=k) (fp:=[]) (by rw[HO2.out,hq];rfl) ((g1.kp k3 (fun e=>by have:=HS2.out.2.2.2;omega)).kp ky (fun e=>by have:=HS2.out.2.2.2;omega)) (Own.nil _ _ _) ?_;exact((HS2.out.2.1.trans kp3).trans' k3 (fun j hj e=>by have:=HS2.out.2.2.2;omega)).trans' ky (fun j hj e=>by omega)
  clear g1 kp3 hq hB3 hW3 k3 HV HO2;have HRG2:Hid (W3.rangeAt w1.heap.size 0 (Ct.cells ⟨1,v,zNd⟩ (.slice none 0 0))):=HX3.out.all;go_wp2_with (first
   | (refine L7 rfl 59 (.tmp 15) (.tmp 14) rfl w1.heap.size 1 _ rfl rfl T0.out E7 (Vl.one24 v) W3 HW3.out ?_)
   | (refine wpList_load_mid rfl 66 (.tmp 3) rfl w1.heap.size 0 rfl (Ct.cells ⟨1,v,zNd⟩ (.slice none 0 0)) _ HRG2.out Tryz.underlying66 rfl E8 ?_)
   | (refine G6 rfl 66 (.tmp 2) (.tmp 24) rfl w.heap.size zC21 (Ct.cells ⟨1,v,zNd⟩ (.slice none 0 0)) 66 HAX.out rfl rfl rfl E8 (Ct.one ⟨1,v,zNd⟩ HO1.out) ?_;intro Y hbY hkY)
   | fail)
  refine bodyPost_ret (results_cell_row rfl _ _ w.heap.size 66 _ (0,0) _ rfl hbY Tryz.underlying66 rfl E8) rfl ?_;exact HFIN.out Y hkY
 ·have HO2:Hid (o=(R d0).map fun q=>(⟨2,zVl,q.1⟩,q.2.2)):=by show _=_;rw[HO1.out,if_neg (by omega),if_pos hx]
  obtain rfl:xi=2:=by omega
  obtain⟨W4,hW4⟩:∃W4,W2.setCell ⟨r,1,none⟩ (.int .i64 0)=W4:=⟨_,rfl⟩;have HW4:Hid (W2.setCell ⟨r,1,none⟩ (.int .i64 0)=W4):=hW4;have k4:Kp W2 W4 (fun j=>j=r):=by rw[<- hW4];exact(Kp.refl _ _).setCell _ _ (.inr rfl)
  have hR4:Rr W4 r d0 0:=by rw[<- hW4];exact HR2.out.set 1 _
  have HV:Hid (Calls Tryz.prog 175 #[.pointer (some ⟨r,0,none⟩)] W4 fun e w'=>RnP r W4 (R d0) e w'):=HNODE.out d0 W4 hR4 (HS2.out.2.2.1.kp k4 (fun e=>HRG.out e.symm));have HK4:Hid (Kp W2 W4 (fun j=>j=r)):=k4;have lk:W2.cell? ⟨w1.heap.size,0,none⟩=some (.int .i64 2):=HB2.out.cell rfl;clear hx hxi HO1 hW4 k4 hR4;go_wp2_with (first|(rw[HW2.out])|(refine I5 rfl 66 (.tmp 3) (.tmp 6) rfl _ _ _ _ _ (by first|rfl|simp) rfl rfl rfl E8 (Ct.one ⟨2,zVl,zNd⟩ rfl) ?_)|fail);rw[HW4.out];clear c1 f1 lk;refine HV.out.mono ?_;intro e w3 hr3;cases hq:R d0 with
  | none=>
   rw[hq] at hr3;cases hr3 with
   | no kp3=>
    have HFN:Hid (RcP r w o (.panicked ef) w3):=HNO.out w3 (by rw[HO2.out,hq];rfl) ((HS2.out.2.1.trans HK4.out).trans kp3);go_wp2_with fail;exact⟨rfl,HFN.out⟩
  | some p=>
  obtain⟨t,f2,l3⟩:=p;rw[hq] at hr3;cases hr3 with
  | @ok _ _ _ sl fp _ g1 g2 kp3=>
  have kp4:Kp W2 w3 (fun j=>j=r):=HK4.out.trans kp3;have hsz:=HK4.out.size;have hB3:Blk w3 w1.heap.size (Ct.cells ⟨2,zVl,zNd⟩ (.slice none 0 0)) 66:=HB2.out.kp kp4 (fun e=>by have:=HS2.out.2.2.2;omega);have T0:Hid (w3.there w1.heap.size 6 15):=I1 hB3 _ _ (by simp);obtain⟨W3,hW3⟩:∃W3,w3.setCells w1.heap.size 6 (t.hd.cells sl)=W3:=⟨_,rfl⟩;have HW3:Hid (w3.setCells w1.heap.size 6 (t.hd.cells sl)=W3):=hW3;have k3:Kp w3 W3 (fun j=>j=w1.heap.size):=by rw[<- hW3];exact Q1 (fun j=>j=w1.heap.size) rfl _ _ _
  have HX3:Hid (Blk W3 w1.heap.size (Ct.cells ⟨2,zVl,t⟩ sl) 66):=by
   show Blk _ _ _ _;rw[<- hW3];exact j0b (pre:=[.int .i64 2,.int .i64 0,.float .f64 0,.string ⟨#[]⟩,.bool false,.int .i64 0]) (old:=zHd.cells (.slice none 0 0)) (new:=t.hd.cells sl) (post:=[]) rfl hB3
  have HAX:Hid (Blk W3 w.heap.size zC21 66):=(HS2.out.1.kp kp4 (fun e=>by have:=HS2.out.2.2.2;omega)).kp k3 (fun e=>by have:=HS2.out.2.2.2;omega);have HO1:Hid (sl.oneCell'=true):=g2.own.one;have HFIN:Hid (∀Y,Kp W3 Y (fun i=>i=w.heap.size)->RcP r w o (.returned (Ct.val ⟨2,zVl,t⟩ sl)) Y):=fun Y ky=>by
   refine RcP.fin_ok (c:=⟨2,zVl,t⟩) (l:=l3) (k:=256-(f2:Int)) (fp:=fp) (by rw[HO2.out,hq];rfl) ((g1.kp k3 (fun e=>by have:=HS2.out.2.2.2;omega)).kp ky (fun e=>by have:=HS2.out.2.2.2;omega)) (((g2.kp k3 (fun b hb e=>by have:=(g2.new b hb).1;have:=HS2.out.2.2.2;omega)).kp ky (fun b hb e=>by have:=(g2.new b hb).1;have:=HS2.out.2.2.2;omega)).le (by have:=HS2.out.2.2.2;omega)) ?_;exact((HS2.out.2.1.trans kp4).trans' k3 (fun j hj e=>by have:=HS2.out.2.2.2;omega)).trans' ky (fun j hj e=>by omega)
  clear g1 g2 kp3 hq hB3 hW3 k3 HV HO2 kp4 hsz;have HRG2:Hid (W3.rangeAt w1.heap.size 0 (Ct.cells ⟨2,zVl,t⟩ sl)):=HX3.out.all;go_wp2_with (first
   | (refine L7 rfl 64 (.tmp 23) (.tmp 22) rfl w1.heap.size 6 _ rfl rfl T0.out z6 (t.hd.one HO1.out) W3 HW3.out ?_)
   | (refine wpList_load_mid rfl 66 (.tmp 3) rfl w1.heap.size 0 rfl (Ct.cells ⟨2,zVl,t⟩ sl) _ HRG2.out Tryz.underlying66 rfl E8 ?_)
   | (refine G6 rfl 66 (.tmp 2) (.tmp 24) rfl w.heap.size zC21 (Ct.cells ⟨2,zVl,t⟩ sl) 66 HAX.out rfl rfl rfl E8 (Ct.one ⟨2,zVl,t⟩ HO1.out) ?_;intro Y hbY hkY)
   | fail)
  refine bodyPost_ret (results_cell_row rfl _ _ w.heap.size 66 _ (0,0) _ rfl hbY Tryz.underlying66 rfl E8) rfl ?_;exact HFIN.out Y hkY
 ·have m1:¬xi=1:=by omega
  have m2:¬xi=2:=by omega
  have HFN:Hid (RcP r w o (.panicked ef) W2):=HNO.out W2 (by rw[HO1.out,if_neg hx1,if_neg hx2]) HS2.out.2.1;clear hx1 hx2 hxi HO1 c1 f1;go_wp2_with (first|(refine I5 rfl 66 (.tmp 3) (.tmp 6) rfl _ _ _ _ _ (by first|rfl|simp) rfl rfl rfl E8 (Ct.one ⟨xi,zVl,zNd⟩ rfl) ?_)|fail);rw[HW2.out];refine(HM0.out _ _).mono ?_;rintro e w2 ⟨rfl,hz⟩;replace hz:=hz.symm;subst hz;go_wp2_with fail;exact⟨rfl,HFN.out⟩
theorem jCc (r:Nat)(hrg:r ≠ 1)(l:List UInt8)(k:Int)(w:World)(h:Rr w r l k)(hsh:Sh w):
 Calls Tryz.prog 135 #[.pointer (some ⟨r,0,none⟩)] w fun e w'=>RcP r w (rCt l) e w':=
 jCb (rNd 256 256) r hrg l k w h hsh (fun d W hr hs=>jCw r hrg 256 256 d W (Nat.le_refl _) (Nat.le_refl _) hr hs)
theorem j0M (n:Nat)(m:List UInt8):UInt8.ofNat ((n:Int).toNat)::m=[UInt8.ofNat n]++m:=rfl
theorem j6d (x:Nat):vlB { zVl with k:=1,x:=x }=[UInt8.ofNat 1]++le 8 x:=by
 unfold vlB vlF;rw[if_pos rfl];exact j0M 1 _
theorem j6c (s:ByteArray):vlB { zVl with k:=2,s:=s }=[UInt8.ofNat 2]++txtB s:=by
 unfold vlB vlF;simp only;rw[if_neg (by decide),if_pos trivial];exact j0M 2 _
theorem j6a (b:Bool):vlB { zVl with k:=3,b:=b }=[UInt8.ofNat 3]++[tb b]:=by
 unfold vlB vlF;simp only;rw[if_neg (by decide),if_neg (by decide),if_pos trivial];exact j0M 3 _
theorem j6b (f:Nat):vlB { zVl with k:=4,f:=f }=[UInt8.ofNat 4]++[UInt8.ofNat f]:=by
 unfold vlB vlF;simp only;rw[if_neg (by decide),if_neg (by decide),if_neg (by decide),if_pos trivial];exact j0M 4 _
theorem j3v (v:Vl)(t:Nd):ctB ⟨1,v,t⟩=[UInt8.ofNat 1]++vlB v:=by
 unfold ctB;simp only;rw[if_neg (by decide)];exact j0M 1 _
theorem j3u (v:Vl)(t:Nd):ctB ⟨2,v,t⟩=[UInt8.ofNat 2]++ndB t:=by
 unfold ctB;simp only;rw[if_pos trivial];exact j0M 2 _
theorem jCH (l:List UInt8):rVf 1 l=(rDbl l).map fun p=>({ zVl with k:=1,x:=p.1 },p.2):=by rw[rVf,if_pos rfl]
theorem jCI (l:List UInt8):rVf 2 l=(rTxt l).map fun p=>({ zVl with k:=2,s:=p.1 },p.2):=by rw[rVf,if_neg (by decide),if_pos rfl]
theorem jCJ (l:List UInt8):rVf 3 l=(rTr l).map fun p=>({ zVl with k:=3,b:=p.1 },p.2):=by rw[rVf,if_neg (by decide),if_neg (by decide),if_pos rfl]
theorem jCK (l:List UInt8):rVf 4 l=(rNum 1 l).map fun p=>({ zVl with k:=4,f:=p.1 },p.2):=by rw[rVf,if_neg (by decide),if_neg (by decide),if_neg (by decide),if_pos rfl]
theorem jCM {l l':List UInt8}{v:Vl}(h:rVl l=some (v,l')):l=vlB v++l':=by
 obtain⟨⟨k,d⟩,h1,h2⟩:=Option.bind_eq_some_iff.1 h;obtain⟨hk,rfl⟩:=E4.1 h1;clear h h1;simp only at h2;rw[le1];unfold rVf at h2;split at h2
 ·rename_i e
  obtain⟨⟨x,d2⟩,h3,h4⟩:=Option.map_eq_some_iff.1 h2;have h6:=(j0j.1 h3).2;subst h6;obtain⟨h7,h8⟩:=Prod.mk.inj h4;simp only at h7 h8;rw[<- h7,<- h8,e];rw[j6d,List.append_assoc]
 ·split at h2
  ·rename_i e
   obtain⟨⟨x,d2⟩,h3,h4⟩:=Option.map_eq_some_iff.1 h2;have h6:=(j0F.1 h3).2;subst h6;obtain⟨h7,h8⟩:=Prod.mk.inj h4;simp only at h7 h8;rw[<- h7,<- h8,e];rw[j6c,List.append_assoc]
  ·split at h2
   ·rename_i e
    obtain⟨⟨x,d2⟩,h3,h4⟩:=Option.map_eq_some_iff.1 h2;have h5:=j1S.1 h3;subst h5;obtain⟨h7,h8⟩:=Prod.mk.inj h4;simp only at h7 h8;rw[<- h7,<- h8,e];rw[j6a,List.append_assoc]
   ·split at h2
    ·rename_i e
     obtain⟨⟨x,d2⟩,h3,h4⟩:=Option.map_eq_some_iff.1 h2;obtain⟨_,rfl⟩:=E4.1 h3;obtain⟨h7,h8⟩:=Prod.mk.inj h4;simp only at h7 h8;rw[<- h7,<- h8,e];rw[j6b,List.append_assoc,le1]
    ·rename_i e1 e2 e3 e4
     injection h2 with h2;injection h2 with h4 h5;subst h4 h5;unfold vlB vlF;simp only;rw[if_neg (by omega),if_neg (by omega),if_neg (by omega),if_neg (by omega)]
     rfl
theorem jC4 {R:List UInt8->Option (Nd×Nat×List UInt8)}{l l':List UInt8}{a:Ct}(hR:∀ {l l' t f},R l=some (t,f,l')->l=ndB t++l')(h:rCtR R l=some (a,l')):l=ctB a++l':=by
 obtain⟨⟨k,d⟩,h1,h2⟩:=Option.bind_eq_some_iff.1 h;obtain⟨hk,rfl⟩:=E4.1 h1;clear h h1;simp only at h2;rw[le1];split at h2
 ·rename_i e
  obtain⟨⟨v,d2⟩,h3,h4⟩:=Option.map_eq_some_iff.1 h2;have h5:=jCM h3;subst h5;obtain⟨h7,h8⟩:=Prod.mk.inj h4;simp only at h7 h8;rw[<- h7,<- h8,e];rw[j3v,List.append_assoc]
 ·split at h2
  ·rename_i e
   obtain⟨⟨t,f,d2⟩,h3,h4⟩:=Option.map_eq_some_iff.1 h2;have h5:=hR h3;subst h5;obtain⟨h7,h8⟩:=Prod.mk.inj h4;simp only at h7 h8;rw[<- h7,<- h8,e];rw[j3u,List.append_assoc]
  ·cases h2
theorem jC7 {l l':List UInt8}{a:Ct}(h:rCt l=some (a,l')):l=ctB a++l':=
 jC4 (fun h=>((Y7 256 (Nat.le_refl _)).1 h).2.2) h
theorem j5L {c r:Nat}{l l':List UInt8}:rPl l=some ((c,r),l')↔(c<65536/\r<65536)/\l=le 2 c++(le 2 r++l'):=by
 unfold rPl;rw[Option.bind_eq_some_iff];constructor
 ·rintro⟨⟨c1,m⟩,h1,h2⟩;obtain⟨h3,rfl⟩:=E4.1 h1;obtain⟨⟨r1,m1⟩,h4,h5⟩:=Option.map_eq_some_iff.1 h2;obtain⟨h6,h7⟩:=E4.1 h4;simp only at h7;subst h7;injection h5 with h5 h8;injection h5 with h5 h9;subst h5 h8 h9;exact⟨⟨h3,h6⟩,rfl⟩
 ·rintro⟨⟨h1,h2⟩,rfl⟩;exact⟨(c,_),E4.2 ⟨h1,rfl⟩,Option.map_eq_some_iff.2 ⟨(r,l'),E4.2 ⟨h2,rfl⟩,rfl⟩⟩
def j0y (v:Vl):Prop:=(v.k=1∨v.x=0)/\(v.k=2∨v.s=⟨#[]⟩)/\(v.k=3∨v.b=false)/\(v.k=4∨v.f=0)
theorem jCL {v:Vl}(h:KnV v)(hb:j0y v)(l':List UInt8):rVl (vlB v++l')=some (v,l'):=by
 obtain⟨k,x,s,b,f⟩:=v;have HX:Hid (x<18446744073709551616/\one x=x):=h.x;have HS:Hid (s.size<65536):=h.s;have hk:=h.k;have hf:=h.f;clear h;obtain⟨b1,b2,b3,b4⟩:=hb;simp only at hk hf b1 b2 b3 b4;have hc:k=1∨k=2∨k=3∨k=4:=by omega
 unfold rVl;rw[Option.bind_eq_some_iff];rcases hc with rfl|rfl|rfl|rfl
 ·obtain rfl:s=⟨#[]⟩:=b2.resolve_left (by decide);obtain rfl:b=false:=b3.resolve_left (by decide);obtain rfl:f=0:=b4.resolve_left (by decide);refine⟨(1,le 8 x++l'),E4.2 ⟨by decide,(by rw[le1];exact(congrArg (· ++ l') (j6d x)).trans (List.append_assoc _ _ _))⟩,?_⟩;simp only;rw[jCH,j0j.2 ⟨HX.out,rfl⟩,Option.map_some]
  rfl
 ·obtain rfl:x=0:=b1.resolve_left (by decide);obtain rfl:b=false:=b3.resolve_left (by decide);obtain rfl:f=0:=b4.resolve_left (by decide);refine⟨(2,txtB s++l'),E4.2 ⟨by decide,(by rw[le1];exact(congrArg (· ++ l') (j6c s)).trans (List.append_assoc _ _ _))⟩,?_⟩;simp only;rw[jCI,j0F.2 ⟨HS.out,rfl⟩,Option.map_some]
  rfl
 ·obtain rfl:x=0:=b1.resolve_left (by decide);obtain rfl:s=⟨#[]⟩:=b2.resolve_left (by decide);obtain rfl:f=0:=b4.resolve_left (by decide);refine⟨(3,[tb b]++l'),E4.2 ⟨by decide,(by rw[le1];exact(congrArg (· ++ l') (j6a b)).trans (List.append_assoc _ _ _))⟩,?_⟩;simp only;rw[jCJ,j1S.2 rfl,Option.map_some]
  rfl
 ·obtain rfl:x=0:=b1.resolve_left (by decide);obtain rfl:s=⟨#[]⟩:=b2.resolve_left (by decide);obtain rfl:b=false:=b3.resolve_left (by decide);obtain⟨n,rfl⟩:∃n:Nat,f=n:=⟨f.toNat,by omega⟩;refine⟨(4,[UInt8.ofNat n]++l'),E4.2 ⟨by decide,(by rw[le1];exact(congrArg (· ++ l') (j6b n)).trans (List.append_assoc _ _ _))⟩,?_⟩;simp only;rw[jCK,(E4 (n:=1) (x:=n) (l:=[UInt8.ofNat n]++l') (l':=l')).2 ⟨by simp only[Nat.pow_one];omega,rfl⟩,Option.map_some]
  rfl
theorem jC3 {R:List UInt8->Option (Nd×Nat×List UInt8)}{a:Ct}(hR:∀ {t l'},KnN t->t.size<=256->∃f,R (ndB t++l')=some (t,f,l'))(h:KnC a)(h1:a.k=1->j0y a.v/\a.t=zNd)(h2:a.k=2->a.v=zVl)(l':List UInt8):rCtR R (ctB a++l')=some (a,l'):=by
 obtain⟨k,v,t⟩:=a;unfold rCtR;rw[Option.bind_eq_some_iff];cases h with
 | plain hk hv=>
  simp only at hk hv h1;subst hk;obtain⟨hb,rfl⟩:=h1 rfl;refine⟨(1,vlB v++l'),E4.2 ⟨by decide,(by rw[le1,j3v,List.append_assoc])⟩,?_⟩;simp only[if_true];rw[jCL hv hb]
  rfl
 | form hk ht hs=>
  simp only at hk ht hs h2;subst hk;obtain rfl:=h2 rfl;obtain⟨f,hf⟩:=hR (l':=l') ht hs;refine⟨(2,ndB t++l'),E4.2 ⟨by decide,(by rw[le1,j3u,List.append_assoc])⟩,?_⟩;simp only[Nat.reduceEqDiff,if_false,if_true];rw[hf]
  rfl
theorem jC5 {a:Ct}(h:KnC a)(h1:a.k=1->j0y a.v/\a.t=zNd)(h2:a.k=2->a.v=zVl)(l':List UInt8):rCt (ctB a++l')=some (a,l'):=
 jC3 (fun {t l'} ht hs=>⟨256-t.size,(Y7 256 (Nat.le_refl _)).2 ⟨ht,by omega,rfl⟩⟩) h h1 h2 l'
theorem jFT {v:Vl}(h:G9 v=true):v=zVl:=by
 obtain⟨k,x,s,b,f⟩:=v;unfold G9 F8 at h;simp only[Bool.and_eq_true,Bool.or_eq_true,beq_iff_eq,decide_eq_true_eq,Bool.not_eq_true'] at h;obtain⟨rfl,⟨⟨b1,b2⟩,b3⟩,b4⟩:=h;obtain rfl:x=0:=by have:=b1.resolve_left (by decide);omega
 obtain rfl:s=⟨#[]⟩:=j00 (by rw[b2.resolve_left (by decide),ByteArray.toList_eq]);obtain rfl:b=false:=b3.resolve_left (by decide);obtain rfl:f=0:=b4.resolve_left (by decide)
 rfl
theorem j8J {v:Vl}(h:F8 v=true):j0y v:=by
 unfold F8 at h;simp only[Bool.and_eq_true,Bool.or_eq_true,beq_iff_eq,decide_eq_true_eq,Bool.not_eq_true'] at h;obtain⟨⟨⟨b1,b2⟩,b3⟩,b4⟩:=h;refine⟨?_,?_,b3,b4⟩
 ·rcases b1 with b1|b1
  ·exact .inl b1
  ·exact .inr (by omega)
 ·rcases b2 with b2|b2
  ·exact .inl b2
  ·exact .inr (j00 (by rw[b2,ByteArray.toList_eq]))
theorem jFR {t:Nd}(h:G8 t=true)(hc:cpy t=t):t=zNd:=by
 obtain⟨h',ts⟩:=t;unfold G8 zNd at h;rw[E3] at h;simp only[Bool.and_eq_true] at h;have h2:ts=[]:=by
  cases ts with
  | nil=>rfl
  | cons _ _=>simp[D3] at h
 subst h2;have h3:=h.1;rw[cpy] at hc;injection hc with hc1 hc2;have hx:one h'.x=h'.x:=congrArg Hd.x hc1;clear h hc1 hc2;obtain⟨k,o,x,s,b,f,c1,r1,p1,q1,c2,r2,p2,q2⟩:=h';unfold j7 at h3;simp only[Bool.and_eq_true,zHd] at h3;have hx0:one x=x:=hx;clear hx;simp only[beq_iff_eq] at h3;obtain⟨⟨⟨⟨⟨⟨⟨rfl,rfl⟩,e3⟩,e4⟩,rfl⟩,rfl⟩,⟨⟨rfl,rfl⟩,rfl⟩,rfl⟩,⟨⟨rfl,rfl⟩,rfl⟩,rfl⟩:=h3;have e5:=of_decide_eq_true e3;obtain rfl:x=0:=by rw[<- hx0,e5,j2h]
 obtain rfl:s=⟨#[]⟩:=j00 (of_decide_eq_true e4)
 rfl
theorem j4S {a:Ct}(h:Gd a)(l':List UInt8):rCt (ctB a++l')=some (a,l'):=by
 have hv:=h.val;have ht1:cpy a.t=a.t:=congrArg Ct.t h.cp;unfold gv Q7 at hv;simp only[Bool.or_eq_true,Bool.and_eq_true,beq_iff_eq,bne_iff_ne] at hv;refine jC5 (j2H h) (fun hk=>?_) (fun hk=>?_) l'
 ·rcases hv with (q|q)|q
  ·omega
  ·obtain⟨_,⟨_,q3⟩,q4⟩:=q;unfold G5 at q3;rw[Bool.and_eq_true] at q3;exact⟨j8J q3.1,jFR q4 ht1⟩
  ·omega
 ·rcases hv with (q|q)|q
  ·omega
  ·omega
  ·exact jFT q.2.1
mutual
theorem j4k:∀t:Nd,KnN t->t.ok/\cpy t=t
 | .mk h ts,hk=>by
  rw[KnN] at hk;obtain⟨h1,h2⟩:=j4j ts hk.2;refine⟨by rw[Nd.ok];exact⟨hk.1.x.1,h1⟩,?_⟩;rw[cpy,h2];have e:=hk.1.x.2;obtain⟨k,o,x,s,b,f,c1,r1,p1,q1,c2,r2,p2,q2⟩:=h;have e':one x=x:=e;simp only[e']
theorem j4j:∀ts:List Nd,KnL ts->okL ts/\cpyL ts=ts
 | [],_=>⟨by rw[okL];trivial,by rw[cpyL]⟩
 | t::ts,hk=>by
  rw[KnL] at hk;obtain⟨h1,h2⟩:=j4k t hk.1;obtain⟨h3,h4⟩:=j4j ts hk.2;exact⟨by rw[okL];exact⟨h1,h3⟩,by rw[cpyL,h2,h4]⟩
end
structure Rd (a:Ct):Prop where
 k:a.k≠0
 ok:a.t.ok
 x:a.v.x<18446744073709551616
 size:a.t.size<=256
 cp:cpC a=a
theorem j6z:zNd.ok/\cpy zNd=zNd/\zNd.size<=256:=by
 refine⟨?_,?_,?_⟩
 ·unfold zNd;rw[Nd.ok];exact⟨by decide,by rw[okL];trivial⟩
 ·unfold zNd;rw[cpy,cpyL];rfl
 ·decide
theorem jCN {l l':List UInt8}{v:Vl}(h:rVl l=some (v,l')):v.x<18446744073709551616/\one v.x=v.x:=by
 obtain⟨⟨k,d⟩,h1,h2⟩:=Option.bind_eq_some_iff.1 h;simp only at h2;unfold rVf at h2;split at h2
 ·obtain⟨⟨x,d1⟩,h3,h4⟩:=Option.map_eq_some_iff.1 h2;have h5:=(j0j.1 h3).1;obtain⟨h6,_⟩:=Prod.mk.inj h4;subst h6;exact h5
 ·split at h2
  ·obtain⟨p,h3,h4⟩:=Option.map_eq_some_iff.1 h2;obtain⟨h6,_⟩:=Prod.mk.inj h4;subst h6;exact x_0
  ·split at h2
   ·obtain⟨p,h3,h4⟩:=Option.map_eq_some_iff.1 h2;obtain⟨h6,_⟩:=Prod.mk.inj h4;subst h6;exact x_0
   ·split at h2
    ·obtain⟨p,h3,h4⟩:=Option.map_eq_some_iff.1 h2;obtain⟨h6,_⟩:=Prod.mk.inj h4;subst h6;exact x_0
    ·injection h2 with h4;obtain⟨h6,_⟩:=Prod.mk.inj h4;subst h6;exact x_0
theorem j5F {l l':List UInt8}{a:Ct}(h:rCt l=some (a,l')):Rd a:=by
 unfold rCt rCtR at h;obtain⟨⟨k,d⟩,h1,h2⟩:=Option.bind_eq_some_iff.1 h;simp only at h2;split at h2
 ·obtain⟨⟨v,d1⟩,h3,h4⟩:=Option.map_eq_some_iff.1 h2;have h5:=jCN h3;obtain⟨h6,_⟩:=Prod.mk.inj h4;subst h6;obtain⟨z1,z2,z3⟩:=j6z;refine⟨(fun e=>by cases e),z1,h5.1,z3,?_⟩;unfold cpC;simp only[z2];obtain⟨vk,vx,vs,vb,vf⟩:=v;have h7:one vx=vx:=h5.2;simp only[h7]
 ·split at h2
  ·obtain⟨⟨t,f,d1⟩,h3,h4⟩:=Option.map_eq_some_iff.1 h2;obtain⟨h5,h6,_⟩:=(Y7 256 (Nat.le_refl _)).1 h3;obtain⟨h7,_⟩:=Prod.mk.inj h4;subst h7;obtain⟨h8,h9⟩:=j4k t h5;refine⟨(fun e=>by cases e),h8,x_0.1,by show t.size<=256;omega,?_⟩;unfold cpC;simp only[h9]
   rfl
  ·cases h2
def rOk (K:List Cc) (c r:Int) (a:Ct):Bool:=vC c r&&gv a&&decide (K.length<4096)
def rSh:Nat->Int×Int->List Cc->List UInt8->Option (List Cc×List UInt8)
 | 0,_,K,l=>some (K,l)
 | n+1,la,K,l=>(rPl l).bind fun p=>if ltOf cfA la ((p.1.1:Int),(p.1.2:Int))=true then (rCt p.2).bind fun q=>if rOk K p.1.1 p.1.2 q.1=true then rSh n ((p.1.1:Int),(p.1.2:Int)) (K++[(((p.1.1:Int),(p.1.2:Int)),q.1)]) q.2 else none else none
def L9 (l:List UInt8):Option (List Cc):=(rNum 2 l).bind fun p=>(rSh p.1 (0,0) [] p.2).bind fun q=>if q.2=[] then some q.1 else none
end
section
open Go.RowKit Go.Maps Go.Sort Go.Lib Go.Shelf
theorem jBw {L:List Cc}{k:Int×Int}{ct:Ct}(h:∀c',(k,c')∉L):putL L k ct=(k,ct)::L:=by
 unfold putL;rw[List.filter_eq_self.2];intro x hx;simp only[decide_eq_true_eq];intro e;obtain⟨y,c⟩:=x;have e':y=k:=e;subst e';exact h c hx
theorem jC1 (G:Nat->Prop)(g:Nat)(c r:Int)(ct:Ct)(sl:Value)(F:Nat->Prop)(K:List Cc)(w:World)(hG:j9 w G g K.reverse)(hnew:∀i,w.heap.size<=i->G i)(hL:K.length<=4096)(hrd:Rd ct)(hno:∀c',((c,r),c')∉K)(hin:NdIn w F sl ct.t)(U:VS w):
 Calls Tryz.prog 25 #[.pointer (some ⟨g,0,none⟩),.agg #[.int .i64 c,.int .i64 r],ct.val sl] w fun e w'=>∃er:Int,e=.returned (.int .i64 er)/\(er==0)=rOk K c r ct/\(rOk K c r ct=true->j9 w' G g (K++[((c,r),ct)]).reverse)/\Km g w w':=by
 have h:GI 0 w g K.reverse:=j9.mono hG (fun _ _=>Nat.zero_le _);obtain⟨mv,bg⟩:=h.blk;have hno':∀c',((c,r),c')∉K.reverse:=fun c' q=>hno c' (List.mem_reverse.1 q)
 have hln:K.reverse.length=K.length:=List.length_reverse;have hval:∀V,gv ct=V->∀wq,Kp w wq Nul->Calls Tryz.prog 57 #[ct.val sl] wq fun e w'=>e=.returned (.bool V)/\Kp wq w' Nul:=fun V hV wq k=>by subst hV;exact j4U ct sl F wq hrd.ok (hin.kp k (fun _ _ x=>x)) (U.kp k)
 have hcp:∀wq,Kp w wq Nul->Calls Tryz.prog 61 #[ct.val sl] wq fun e w'=>∃sl' fp,e=.returned ((cpC ct).val sl')/\Own w' wq.heap.size sl' (cpC ct).t fp/\Kp wq w' Nul:=fun wq k=>(j2G ct sl F wq hrd.x (by have:=hrd.size;omega) hrd.ok (hin.kp k (fun _ _ x=>x))).mono (by
  rintro e w' ⟨sl',fp,h1,h2,h3⟩;exact⟨sl',fp,h1,h2,Kp.of_below h3⟩)
 cases hV:gv ct with
 | false=>
  refine(j1P g c r ct sl false w (fun e=>by cases e) (hval false hV)).mono ?_;rintro e w' ⟨rfl,k⟩;have e0:rOk K c r ct=false:=by unfold rOk;rw[hV];simp
  exact⟨_,rfl,by rw[e0];rfl,(fun q=>by rw[e0] at q;cases q),Km.of_nul k bg.lt⟩
 | true=>
  cases hC:vC c r with
  | false=>
   refine(j1P g c r ct sl true w (fun _=>hC) (hval true hV)).mono ?_;rintro e w' ⟨rfl,k⟩;have e0:rOk K c r ct=false:=(by unfold rOk;rw[hC];simp);exact⟨_,rfl,by rw[e0];rfl,(fun q=>by rw[e0] at q;cases q),Km.of_nul k bg.lt⟩
  | true=>
   by_cases hroom:K.length<4096
   ·refine(j5D G g c r hC ct hrd.k sl K.reverse w h hG hnew (by rw[hln];exact hL) (.inl (by rw[hln];exact hroom)) (hval true hV) hcp).mono ?_;rintro e w' ⟨rfl,h1,h2⟩;have e0:rOk K c r ct=true:=(by unfold rOk;rw[hC,hV,decide_eq_true hroom];rfl);refine⟨0,rfl,by rw[e0];rfl,fun _=>?_,h2⟩;rw[hrd.cp,jBw hno'] at h1;rw[List.reverse_append];exact h1
   ·refine(j5C 0 g c r hC ct hrd.k sl K.reverse w h (by rw[hln];omega) hno' (hval true hV)).mono ?_;rintro e w' ⟨rfl,k⟩;have e0:rOk K c r ct=false:=(by unfold rOk;rw[decide_eq_false hroom];simp);exact⟨41,rfl,by rw[e0];rfl,(fun q=>by rw[e0] at q;cases q),Km.of_nul k bg.lt⟩
end
end Go.Proofs.YtnceajanlnnfoaaGreatDoor
