/-Packed: the reader's small, double, text, truth, place, ref. -/
import Derived.Test.YtnceajanlnnfoaaGreatDoorQrPkl
import Derived.Test.YtnceajanlnnfoaaGreatDoorQrPkc
set_option maxHeartbeats 4000000
set_option maxRecDepth 20000
namespace Go.Proofs.YtnceajanlnnfoaaGreatDoor
section
open Go.RowKit Go.Shelf
theorem j1d (n:Nat)(hn:n<9223372036854775808)(w:World):(convert 80 3 (.int .u64 n)).run Tryz.prog w=.ok (.int .i64 n) w:=by
 have e:(n:Int)%18446744073709551616=n:=by omega
 have e2:¬(9223372036854775808:Int)<=(n:Int):=by omega
 simp[go_sem,convert,run_underlying Tryz.underlying80,run_underlying Tryz.underlying3,IntKind.wrap,IntKind.signed,e];omega
theorem Y8 {n x:Nat}{l l':List UInt8}(h:rNum n l=some (x,l')):x<256^n:=(E4.1 h).1
theorem T9 (r:Nat)(l:List UInt8)(k:Int)(w:World)(h:Rr w r l k):
 Calls Tryz.prog 173 #[.pointer (some ⟨r,0,none⟩)] w fun e w'=>RdP r w k ((rNum 1 l).map fun p=>(.int .i64 p.1,p.2)) e w':=by
 have H:Hid (Calls Tryz.prog 52 #[.pointer (some ⟨r,0,none⟩),.int .i64 1] w fun e w'=>RdP r w k ((rNum 1 l).map fun p=>(.int .u64 p.1,p.2)) e w'):=j0H r l k 1 w h (by decide);clear h;cases hq:rNum 1 l with
 | none=>
  rw[hq] at H;go_enter Tryz.func173,Tryz.ntmps173;go_wp2_with fail;refine H.out.mono ?_;intro e w1 hr;cases hr with
  | no kp1=>
   go_wp2_with fail;exact⟨rfl,RdP.no kp1⟩
 | some p=>
  obtain⟨x,d⟩:=p;rw[hq] at H;have hcv:=j1d x (by have:=Y8 hq;omega);clear hq;go_enter Tryz.func173,Tryz.ntmps173;go_wp2_with fail;refine H.out.mono ?_;intro e w1 hr;cases hr with
  | ok h1 kp1=>
   have HH:Hid (RdP r w k ((some (x,d)).map fun p=>(Value.int .i64 (p.1:Nat),p.2)) (.returned (.int .i64 x)) w1):=RdP.ok h1 kp1;clear h1 kp1 H;go_wp2_with fail;refine bodyPost_ret (results_tmp rfl _ _ _) rfl ?_;exact HH.out
theorem RdP.fin_ok {r:Nat}{w:World}{k:Int}{o:Option (Value×List UInt8)}{v:Value}{l:List UInt8}{w':World}(e:o=some (v,l))(h:Rr w' r l k)(kp:Kp w w' (fun i=>i=r)):RdP r w k o (.returned v) w':=by rw[e];exact .ok h kp
theorem RdP.fin_no {r:Nat}{w:World}{k:Int}{o:Option (Value×List UInt8)}{w':World}(e:o=none)(kp:Kp w w' (fun i=>i=r)):RdP r w k o (.panicked ef) w':=by rw[e];exact .no kp
theorem j0f (r:Value)(w:World):Calls Tryz.prog 133 #[r,.bool true] w fun e w'=>e=.returned (.tuple #[])/\w'=w:=(j2a r true w).mono fun e w' h=>⟨by have:=h.1;rwa [if_pos rfl] at this,h.2⟩
theorem Y3 (r:Value)(w:World):Calls Tryz.prog 133 #[r,.bool false] w fun e w'=>e=.panicked ef/\w'=w:=(j2a r false w).mono fun e w' h=>⟨by have:=h.1;rwa [if_neg (by decide)] at this,h.2⟩
theorem j5x (r:Nat)(l:List UInt8)(k:Int)(w:World)(h:Rr w r l k):
 Calls Tryz.prog 196 #[.pointer (some ⟨r,0,none⟩)] w fun e w'=>RdP r w k ((rTr l).map fun p=>(.bool p.1,p.2)) e w':=by
 have H:Hid (Calls Tryz.prog 173 #[.pointer (some ⟨r,0,none⟩)] w fun e w'=>RdP r w k ((rNum 1 l).map fun p=>(.int .i64 p.1,p.2)) e w'):=T9 r l k w h;have HM1:Hid (∀v w,Calls Tryz.prog 133 #[v,.bool true] w fun e w'=>e=.returned (.tuple #[])/\w'=w):=j0f;have HM0:Hid (∀v w,Calls Tryz.prog 133 #[v,.bool false] w fun e w'=>e=.panicked ef/\w'=w):=Y3;obtain⟨o,ho⟩:∃o,((rTr l).map fun p=>(Value.bool p.1,p.2))=o:=⟨_,rfl⟩;rw[ho];have HO:Hid (o=(rTr l).map fun p=>(Value.bool p.1,p.2)):=ho.symm;clear h ho;go_enter Tryz.func196,Tryz.ntmps196;go_wp2_with fail;refine H.out.mono ?_;intro e w1 hr;cases hq:rNum 1 l with
 | none=>
  rw[hq] at hr;cases hr with
  | no kp1=>
   have HF:Hid (RdP r w k o (.panicked ef) w1):=RdP.fin_no (by rw[HO.out,rTr,hq];rfl) kp1;go_wp2_with fail;exact⟨rfl,HF.out⟩
 | some p=>
  obtain⟨x,d⟩:=p;rw[hq] at hr;cases hr with
  | ok h1 kp1=>
   have HB1:Hid (Rr w1 r d k/\Kp w w1 (fun i=>i=r)):=⟨h1,kp1⟩;have HQ:Hid (rNum 1 l=some (x,d)):=hq;clear h1 kp1 H hq;by_cases hx:x<=1
   ·have hx':decide ((x:Int)<=1)=true:=decide_eq_true (by omega);have HH:Hid (RdP r w k o (.returned (.bool ((x:Int)==1))) w1):=RdP.fin_ok (by
     rw[HO.out,rTr,HQ.out,Option.bind_some];simp only;rw[if_pos hx,Option.map_some];have HE:decide (x=1)=((x:Int)==1):=(by rw[Bool.eq_iff_iff];simp;omega);rw[HE]) HB1.out.1 HB1.out.2
    clear hx;go_wp2_with fail;refine(HM1.out _ _).mono ?_;rintro e w2 ⟨rfl,hz⟩;replace hz:=hz.symm;subst hz;go_wp2_with fail;refine bodyPost_ret (results_tmp rfl _ _ _) rfl ?_;exact HH.out
   ·have hx':decide ((x:Int)<=1)=false:=decide_eq_false (by omega);have HF:Hid (RdP r w k o (.panicked ef) w1):=RdP.fin_no (by
     rw[HO.out,rTr,HQ.out,Option.bind_some];simp only;rw[if_neg hx]
     rfl) HB1.out.2
    clear hx;go_wp2_with fail;refine(HM0.out _ _).mono ?_;rintro e w2 ⟨rfl,hz⟩;replace hz:=hz.symm;subst hz;go_wp2_with fail;exact⟨rfl,HF.out⟩
theorem jDT (b:Nat)(w:World):(callFunc 43 #[.int .u64 (b:Int)]).run Tryz.prog w=.ok (.value (.float .f64 b)) w:=by
 have h:=jDU (b:Int) w;rw[Int.toNat_natCast] at h;exact h
theorem j5V (r:Nat)(l:List UInt8)(k:Int)(w:World)(h:Rr w r l k):
 Calls Tryz.prog 194 #[.pointer (some ⟨r,0,none⟩)] w fun e w'=>RdP r w k ((rDbl l).map fun p=>(.float .f64 p.1,p.2)) e w':=by
 have H:Hid (Calls Tryz.prog 52 #[.pointer (some ⟨r,0,none⟩),.int .i64 8] w fun e w'=>RdP r w k ((rNum 8 l).map fun p=>(.int .u64 p.1,p.2)) e w'):=j0H r l k 8 w h (by decide);have HM1:Hid (∀v w,Calls Tryz.prog 133 #[v,.bool true] w fun e w'=>e=.returned (.tuple #[])/\w'=w):=j0f;have HM0:Hid (∀v w,Calls Tryz.prog 133 #[v,.bool false] w fun e w'=>e=.panicked ef/\w'=w):=Y3;obtain⟨o,ho⟩:∃o,((rDbl l).map fun p=>(Value.float .f64 p.1,p.2))=o:=⟨_,rfl⟩;rw[ho];have HO:Hid (o=(rDbl l).map fun p=>(Value.float .f64 p.1,p.2)):=ho.symm;clear h ho;go_enter Tryz.func194,Tryz.ntmps194;go_wp2_with fail;refine H.out.mono ?_;intro e w1 hr;cases hq:rNum 8 l with
 | none=>
  rw[hq] at hr;cases hr with
  | no kp1=>
   have HF:Hid (RdP r w k o (.panicked ef) w1):=RdP.fin_no (by rw[HO.out,rDbl,hq];rfl) kp1;go_wp2_with fail;exact⟨rfl,HF.out⟩
 | some p=>
  obtain⟨x,d⟩:=p;rw[hq] at hr;cases hr with
  | ok h1 kp1=>
   have HB1:Hid (Rr w1 r d k/\Kp w w1 (fun i=>i=r)):=⟨h1,kp1⟩;have HQ:Hid (rNum 8 l=some (x,d)):=hq;have HX:Hid (x<18446744073709551616):=Y8 hq;have HOn:Hid (∀wq,Calls Tryz.prog 55 #[.float .f64 x] wq fun e w'=>e=.returned (.float .f64 (one x))/\w'=wq):=(fun wq=>j08 x HX wq);have hfb:=(fun wq=>jDT x wq);clear h1 kp1 H hq;go_wp2_with fail;refine(HOn.out _).mono ?_;rintro e w2 ⟨rfl,hz⟩;replace hz:=hz.symm;subst hz;clear hfb;by_cases hx:one x=x
   ·have HH:Hid (RdP r w k o (.returned (.float .f64 (one x))) w1):=RdP.fin_ok (by
     rw[HO.out,rDbl,HQ.out,Option.bind_some];simp only;rw[if_pos hx,Option.map_some,hx]) HB1.out.1 HB1.out.2
    have hxb:(((one x:Nat):Int)==(x:Int))=true:=(by rw[hx];simp);generalize one x=y at *;clear hx;go_wp2_with fail;refine(HM1.out _ _).mono ?_;rintro e w2 ⟨rfl,hz⟩;replace hz:=hz.symm;subst hz;go_wp2_with fail;refine bodyPost_ret (results_tmp rfl _ _ _) rfl ?_;exact HH.out
   ·have HF:Hid (RdP r w k o (.panicked ef) w1):=RdP.fin_no (by
     rw[HO.out,rDbl,HQ.out,Option.bind_some];simp only;rw[if_neg hx]
     rfl) HB1.out.2
    have hxb:(((one x:Nat):Int)==(x:Int))=false:=(by rw[Bool.eq_false_iff];simp;omega);generalize one x=y at *;clear hx;go_wp2_with fail;refine(HM0.out _ _).mono ?_;rintro e w2 ⟨rfl,hz⟩;replace hz:=hz.symm;subst hz;go_wp2_with fail;exact⟨rfl,HF.out⟩
theorem jDp (s:ByteArray)(hs:s.size<=281474976710656)(w:World):Calls Tryz.prog 217 #[.string s] w fun e w'=>e=.returned (.string s)/\Kp w w' Nul:=by
 have H:Hid (Calls Tryz.prog 234 #[.string s] w fun e w'=>e=.returned (.string s)/\Kp w w' Nul):=(Any.stringslite_Clone Tryz.laysClone s w hs).mono fun e w' h=>⟨h.1,Kp.of_below h.2⟩
 go_enter Tryz.func217,Tryz.ntmps217;go_wp2_with fail;refine H.out.mono ?_;rintro e w1 ⟨rfl,hk⟩;go_wp2_with fail;go_ret;exact⟨rfl,hk⟩
theorem j5v (r:Nat)(l:List UInt8)(k:Int)(w:World)(h:Rr w r l k):
 Calls Tryz.prog 195 #[.pointer (some ⟨r,0,none⟩)] w fun e w'=>RdP r w k ((rTxt l).map fun p=>(.string p.1,p.2)) e w':=by
 have H:Hid (Calls Tryz.prog 52 #[.pointer (some ⟨r,0,none⟩),.int .i64 2] w fun e w'=>RdP r w k ((rNum 2 l).map fun p=>(.int .u64 p.1,p.2)) e w'):=j0H r l k 2 w h (by decide);have HT:Hid (∀d n w,Rr w r d k->Calls Tryz.prog 103 #[.pointer (some ⟨r,0,none⟩),.int .i64 (n:Nat)] w fun e w'=>RdP r w k (if n<=d.length then some (.string ⟨(d.take n).toArray⟩,d.drop n) else none) e w'):=fun d n w h=>j6N r d k n w h
 have HC:Hid (∀(s:ByteArray) w,s.size<=281474976710656->Calls Tryz.prog 217 #[.string s] w fun e w'=>e=.returned (.string s)/\Kp w w' Nul):=fun s w h=>jDp s h w
 obtain⟨o,ho⟩:∃o,((rTxt l).map fun p=>(Value.string p.1,p.2))=o:=⟨_,rfl⟩;rw[ho];have HO:Hid (o=(rTxt l).map fun p=>(Value.string p.1,p.2)):=ho.symm;clear h ho;go_enter Tryz.func195,Tryz.ntmps195;go_wp2_with fail;refine H.out.mono ?_;intro e w1 hr;cases hq:rNum 2 l with
 | none=>
  rw[hq] at hr;cases hr with
  | no kp1=>
   have HF:Hid (RdP r w k o (.panicked ef) w1):=RdP.fin_no (by rw[HO.out,rTxt,hq];rfl) kp1;go_wp2_with fail;exact⟨rfl,HF.out⟩
 | some p=>
  obtain⟨x,d⟩:=p;rw[hq] at hr;cases hr with
  | ok h1 kp1=>
   have HB1:Hid (Rr w1 r d k/\Kp w w1 (fun i=>i=r)):=⟨h1,kp1⟩;have HQ:Hid (rNum 2 l=some (x,d)):=hq;have HX:Hid (x<65536):=Y8 hq;have hcv:=j1d x (by have:=HX.out;omega);clear h1 kp1 H hq;go_wp2_with fail;refine(HT.out d x w1 HB1.out.1).mono ?_;intro e w2 hr;clear hcv;by_cases hx:x<=d.length
   ·rw[if_pos hx] at hr;cases hr with
    | ok h2 kp2=>
     have HB2:Hid (Rr w2 r (d.drop x) k/\Kp w w2 (fun i=>i=r)):=⟨h2,HB1.out.2.trans kp2⟩;have HS:Hid ((ByteArray.mk (d.take x).toArray).size<=281474976710656):=by
      show (d.take x).toArray.size<=_;rw[List.size_toArray,List.length_take];have:=HX.out;omega
     clear h2 kp2;go_wp2_with fail;refine(HC.out _ _ HS.out).mono ?_;rintro e w3 ⟨rfl,hk3⟩;have HH:Hid (RdP r w k o (.returned (.string ⟨(d.take x).toArray⟩)) w3):=RdP.fin_ok (by
      rw[HO.out,rTxt,HQ.out,Option.bind_some];simp only;rw[if_pos hx,Option.map_some]) (HB2.out.1.kp hk3 (fun x=>x)) (HB2.out.2.trans hk3.of_nul)
     clear hk3 hx;go_wp2_with fail;refine bodyPost_ret (results_tmp rfl _ _ _) rfl ?_;exact HH.out
   ·rw[if_neg hx] at hr;cases hr with
    | no kp2=>
     have HF:Hid (RdP r w k o (.panicked ef) w2):=RdP.fin_no (by
      rw[HO.out,rTxt,HQ.out,Option.bind_some];simp only;rw[if_neg hx]
      rfl) (HB1.out.2.trans kp2)
     clear hx kp2;go_wp2_with fail;exact⟨rfl,HF.out⟩
def rPl (l:List UInt8):Option ((Nat×Nat)×List UInt8):=(rNum 2 l).bind fun c=>(rNum 2 c.2).map fun r=>((c.1,r.1),r.2)
theorem j9o:(Tryz.prog.info? 57).map (·.size)=some 2:=by kernel_rfl
theorem j05:(Tryz.prog.info? 61).map (·.size)=some 4:=by kernel_rfl
theorem j5r (r:Nat)(l:List UInt8)(k:Int)(w:World)(h:Rr w r l k):
 Calls Tryz.prog 132 #[.pointer (some ⟨r,0,none⟩)] w fun e w'=>RdP r w k ((rPl l).map fun p=>(.agg #[.int .i64 p.1.1,.int .i64 p.1.2],p.2)) e w':=by
 obtain⟨W,hW⟩:∃W,w.alloc (.cells #[.int .i64 0,.int .i64 0] 57)=W:=⟨_,rfl⟩;have kp0:Kp w W Nul:=by rw[<- hW];exact(Kp.refl w Nul).alloc _
 have HBA:Hid (Blk W w.heap.size [.int .i64 0,.int .i64 0] 57):=by show Blk _ _ _ _;rw[<- hW];exact Blk.new w _ _
 have HN:Hid (∀d w,Rr w r d k->Calls Tryz.prog 52 #[.pointer (some ⟨r,0,none⟩),.int .i64 2] w fun e w'=>RdP r w k ((rNum 2 d).map fun p=>(.int .u64 p.1,p.2)) e w'):=fun d w h=>j0H r d k 2 w h (by decide)
 have HR0:Hid (Rr W r l k):=h.kp kp0 (fun x=>x);have HNe:Hid (¬w.heap.size=r):=by show ¬_;have:=h.lt;omega
 have HK0:Hid (Kp w W (fun i=>i=r)):=kp0.of_nul;have HW:Hid (w.alloc (.cells #[.int .i64 0,.int .i64 0] 57)=W):=hW;obtain⟨o,ho⟩:∃o,((rPl l).map fun p=>(Value.agg #[.int .i64 (p.1.1:Nat),.int .i64 (p.1.2:Nat)],p.2))=o:=⟨_,rfl⟩;rw[ho];have HO:Hid (o=(rPl l).map fun p=>(Value.agg #[.int .i64 (p.1.1:Nat),.int .i64 (p.1.2:Nat)],p.2)):=ho.symm;clear h ho hW kp0;go_enter Tryz.func132,Tryz.ntmps132;go_wp2_with (first|(rw[HW.out])|fail);refine(HN.out l W HR0.out).mono ?_;intro e w1 hr;cases hq:rNum 2 l with
 | none=>
  rw[hq] at hr;cases hr with
  | no kp1=>
   have HF:Hid (RdP r w k o (.panicked ef) w1):=RdP.fin_no (by rw[HO.out,rPl,hq];rfl) (HK0.out.trans kp1);go_wp2_with fail;exact⟨rfl,HF.out⟩
 | some p=>
  obtain⟨x,d⟩:=p;rw[hq] at hr;cases hr with
  | ok h1 kp1=>
   have HB1:Hid (Rr w1 r d k/\Kp w w1 (fun i=>i=r)):=⟨h1,HK0.out.trans kp1⟩;have HA1:Hid (Blk w1 w.heap.size [.int .i64 0,.int .i64 0] 57):=HBA.out.kp kp1 (fun e=>HNe.out e);have HQ:Hid (rNum 2 l=some (x,d)):=hq;have hcv:=j1d x (by have:=Y8 hq;omega);clear h1 kp1 hq HBA HR0 HW;go_wp2_with fail;refine(HN.out d w1 HB1.out.1).mono ?_;intro e w2 hr;clear hcv;cases hq2:rNum 2 d with
   | none=>
    rw[hq2] at hr;cases hr with
    | no kp2=>
     have HF:Hid (RdP r w k o (.panicked ef) w2):=RdP.fin_no (by rw[HO.out,rPl,HQ.out,Option.bind_some];simp only;rw[hq2];rfl) (HB1.out.2.trans kp2);go_wp2_with fail;exact⟨rfl,HF.out⟩
   | some p=>
    obtain⟨y,d2⟩:=p;rw[hq2] at hr;cases hr with
    | ok h2 kp2=>
     have HB2:Hid (Rr w2 r d2 k/\Kp w w2 (fun i=>i=r)):=⟨h2,HB1.out.2.trans kp2⟩;have hA2:Blk w2 w.heap.size [.int .i64 0,.int .i64 0] 57:=HA1.out.kp kp2 (fun e=>HNe.out e);have hcv:=j1d y (by have:=Y8 hq2;omega);have HE:Hid (o=some (.agg #[.int .i64 (x:Nat),.int .i64 (y:Nat)],d2)):=(by show _=_;rw[HO.out,rPl,HQ.out,Option.bind_some];simp only;rw[hq2];rfl);have a0:w2.cell? ⟨w.heap.size,0,none⟩=some (.int .i64 0):=hA2.cell rfl;have a1:w2.cell? ⟨w.heap.size,1,none⟩=some (.int .i64 0):=hA2.cell rfl;have f0:w2.frozen? ⟨w.heap.size,0,none⟩=false:=hA2.froz 0;have f1:w2.frozen? ⟨w.heap.size,1,none⟩=false:=hA2.froz 1;have HX:Hid (Blk ((w2.setCell ⟨w.heap.size,0,none⟩ (.int .i64 (x:Nat))).setCell ⟨w.heap.size,1,none⟩ (.int .i64 (y:Nat))) w.heap.size [.int .i64 (x:Nat),.int .i64 (y:Nat)] 57):=(hA2.set 0 _).set 1 _;have HKX:Hid (Kp w2 ((w2.setCell ⟨w.heap.size,0,none⟩ (.int .i64 (x:Nat))).setCell ⟨w.heap.size,1,none⟩ (.int .i64 (y:Nat))) (fun i=>i=w.heap.size)):=by show Kp _ _ _;exact((Kp.refl w2 (fun i=>i=w.heap.size)).setCell ⟨w.heap.size,0,none⟩ _ (.inr rfl)).setCell ⟨w.heap.size,1,none⟩ _ (.inr rfl)
     clear h2 kp2 hq2 hA2;go_wp2_with fail;refine bodyPost_ret (results_cell_row rfl _ _ w.heap.size 57 _ (0,0) _ rfl HX.out Tryz.underlying57 rfl j9o) rfl ?_;exact RdP.fin_ok HE.out (HB2.out.1.kp HKX.out (fun e=>HNe.out e.symm)) (HB2.out.2.trans' HKX.out (fun i hi e=>by have e':i=w.heap.size:=e;omega))
theorem jCF (l:List UInt8):rRef l=(rPl l).bind fun c=>(rNum 1 c.2).bind fun f=>if f.1<=3 then some ((c.1.1,c.1.2,decide (f.1%2=1),decide (f.1/2=1)),f.2) else none:=by
 unfold rRef rPl;cases h1:rNum 2 l with
 | none=>rfl
 | some p=>
  rw[Option.bind_some,Option.bind_some];cases h2:rNum 2 p.2 with
  | none=>rfl
  | some q=>rfl
theorem j5s (r:Nat)(l:List UInt8)(k:Int)(w:World)(h:Rr w r l k):
 Calls Tryz.prog 218 #[.pointer (some ⟨r,0,none⟩)] w fun e w'=>RdP r w k ((rRef l).map fun p=>(.agg #[.int .i64 p.1.1,.int .i64 p.1.2.1,.bool p.1.2.2.1,.bool p.1.2.2.2],p.2)) e w':=by
 obtain⟨W,hW⟩:∃W,w.alloc (.cells #[.int .i64 0,.int .i64 0,.bool false,.bool false] 61)=W:=⟨_,rfl⟩;have kp0:Kp w W Nul:=by rw[<- hW];exact(Kp.refl w Nul).alloc _
 have HBA:Hid (Blk W w.heap.size [.int .i64 0,.int .i64 0,.bool false,.bool false] 61):=by show Blk _ _ _ _;rw[<- hW];exact Blk.new w _ _
 have HP:Hid (∀d w,Rr w r d k->Calls Tryz.prog 132 #[.pointer (some ⟨r,0,none⟩)] w fun e w'=>RdP r w k ((rPl d).map fun p=>(.agg #[.int .i64 p.1.1,.int .i64 p.1.2],p.2)) e w'):=fun d w h=>j5r r d k w h
 have HN:Hid (∀d w,Rr w r d k->Calls Tryz.prog 173 #[.pointer (some ⟨r,0,none⟩)] w fun e w'=>RdP r w k ((rNum 1 d).map fun p=>(.int .i64 p.1,p.2)) e w'):=fun d w h=>T9 r d k w h
 have HM1:Hid (∀v w,Calls Tryz.prog 133 #[v,.bool true] w fun e w'=>e=.returned (.tuple #[])/\w'=w):=j0f;have HM0:Hid (∀v w,Calls Tryz.prog 133 #[v,.bool false] w fun e w'=>e=.panicked ef/\w'=w):=Y3;have HR0:Hid (Rr W r l k):=h.kp kp0 (fun x=>x);have HNe:Hid (¬w.heap.size=r/\r<w.heap.size):=by show ¬_/\_;have:=h.lt;omega
 have HK0:Hid (Kp w W (fun i=>i=r)):=kp0.of_nul;have HW:Hid (w.alloc (.cells #[.int .i64 0,.int .i64 0,.bool false,.bool false] 61)=W):=hW;obtain⟨o,ho⟩:∃o,((rRef l).map fun p=>(Value.agg #[.int .i64 (p.1.1:Nat),.int .i64 (p.1.2.1:Nat),.bool p.1.2.2.1,.bool p.1.2.2.2],p.2))=o:=⟨_,rfl⟩;rw[ho];have HO:Hid (o=(rRef l).map fun p=>(Value.agg #[.int .i64 (p.1.1:Nat),.int .i64 (p.1.2.1:Nat),.bool p.1.2.2.1,.bool p.1.2.2.2],p.2)):=ho.symm;rw[jCF] at HO;clear h ho hW kp0;go_enter Tryz.func218,Tryz.ntmps218;go_wp2_with (first|(rw[HW.out])|fail);refine(HP.out l W HR0.out).mono ?_;intro e w1 hr;cases hq:rPl l with
 | none=>
  rw[hq] at hr;cases hr with
  | no kp1=>
   have HF:Hid (RdP r w k o (.panicked ef) w1):=RdP.fin_no (by rw[HO.out,hq];rfl) (HK0.out.trans kp1);go_wp2_with fail;exact⟨rfl,HF.out⟩
 | some p=>
  obtain⟨⟨x,y⟩,d⟩:=p;rw[hq] at hr;cases hr with
  | ok h1 kp1=>
   have hA1:Blk w1 w.heap.size [.int .i64 0,.int .i64 0,.bool false,.bool false] 61:=HBA.out.kp kp1 (fun e=>HNe.out.1 e);obtain⟨w1',hw1'⟩:∃w1',w1.alloc (.cells #[.int .i64 (x:Nat),.int .i64 (y:Nat)] 57)=w1':=⟨_,rfl⟩;have kp1':Kp w1 w1' Nul:=(by rw[<- hw1'];exact(Kp.refl w1 Nul).alloc _);have HB1:Hid (Rr w1' r d k/\Kp w w1' (fun i=>i=r)):=⟨h1.kp kp1' (fun x=>x),(HK0.out.trans kp1).trans kp1'.of_nul⟩;have HA1:Hid (Blk w1' w.heap.size [.int .i64 0,.int .i64 0,.bool false,.bool false] 61):=hA1.kp kp1' (fun x=>x);have HV1:Hid (Blk w1' w1.heap.size [.int .i64 (x:Nat),.int .i64 (y:Nat)] 57):=(by show Blk _ _ _ _;rw[<- hw1'];exact Blk.new w1 _ _);have HNv:Hid (¬w1.heap.size=r/\¬w1.heap.size=w.heap.size):=(by show ¬_/\¬_;have:=h1.lt;have:=hA1.lt;omega);have HWv:Hid (w1.alloc (.cells #[.int .i64 (x:Nat),.int .i64 (y:Nat)] 57)=w1'):=hw1'
   have HQ:Hid (rPl l=some ((x,y),d)):=hq;clear h1 kp1 hq HBA HR0 HW hA1 hw1' kp1';go_wp2_with (first|(rw[HWv.out])|fail);refine(HN.out d w1' HB1.out.1).mono ?_;intro e w2 hr;cases hq2:rNum 1 d with
   | none=>
    rw[hq2] at hr;cases hr with
    | no kp2=>
     have HF:Hid (RdP r w k o (.panicked ef) w2):=RdP.fin_no (by rw[HO.out,HQ.out,Option.bind_some];simp only;rw[hq2];rfl) (HB1.out.2.trans kp2);go_wp2_with fail;exact⟨rfl,HF.out⟩
   | some p=>
    obtain⟨f,d2⟩:=p;rw[hq2] at hr;cases hr with
    | ok h2 kp2=>
     have HB2:Hid (Rr w2 r d2 k/\Kp w w2 (fun i=>i=r)):=⟨h2,HB1.out.2.trans kp2⟩;have hA2:Blk w2 w.heap.size [.int .i64 0,.int .i64 0,.bool false,.bool false] 61:=HA1.out.kp kp2 (fun e=>HNe.out.1 e);have hV2:Blk w2 w1.heap.size [.int .i64 (x:Nat),.int .i64 (y:Nat)] 57:=HV1.out.kp kp2 (fun e=>HNv.out.1 e);have HQ2:Hid (rNum 1 d=some (f,d2)):=hq2;by_cases hf:f<=3
     ·have hf':decide ((f:Int)<=3)=true:=decide_eq_true (by omega);obtain⟨pb,hpb⟩:∃pb,decide (f%2=1)=pb:=⟨_,rfl⟩;obtain⟨qb,hqb⟩:∃qb,decide (f/2=1)=qb:=⟨_,rfl⟩;have HE:Hid (o=some (.agg #[.int .i64 (x:Nat),.int .i64 (y:Nat),.bool pb,.bool qb],d2)):=by
       show _=_;rw[HO.out,HQ.out,Option.bind_some];simp only;rw[HQ2.out,Option.bind_some];simp only;rw[if_pos hf,Option.map_some,hpb,hqb]
      have hb1:(bits .and .i64 (f:Int) 1 != 0)=pb:=by
       rw[<- hpb]
       match f,hf with
       | 0,_=>decide
       | 1,_=>decide
       | 2,_=>decide
       | 3,_=>decide
      have hb2:(bits .and .i64 (f:Int) 2 != 0)=qb:=by
       rw[<- hqb]
       match f,hf with
       | 0,_=>decide
       | 1,_=>decide
       | 2,_=>decide
       | 3,_=>decide
      have v0:w2.cell? ⟨w1.heap.size,0,none⟩=some (.int .i64 (x:Nat)):=hV2.cell rfl;have v1:w2.cell? ⟨w1.heap.size,1,none⟩=some (.int .i64 (y:Nat)):=hV2.cell rfl;have HA2:Hid (Blk w2 w.heap.size [.int .i64 0,.int .i64 0,.bool false,.bool false] 61):=hA2;clear h2 kp2 hq2 hA2 hV2 hf hpb hqb;go_wp2_with fail;refine(HM1.out _ _).mono ?_;rintro e w3 ⟨rfl,hz⟩;replace hz:=hz.symm;subst hz;go_wp2_with (first|(refine G6 rfl 61 (.tmp 2) (.tmp 20) rfl w.heap.size _ [.int .i64 (x:Nat),.int .i64 (y:Nat),.bool pb,.bool qb] 61 HA2.out rfl rfl rfl j05 (by simp[Value.oneCell']) ?_;intro X hbX hkX)|fail);refine bodyPost_ret (results_cell_row rfl _ _ w.heap.size 61 _ (0,0) _ rfl hbX Tryz.underlying61 rfl j05) rfl ?_;exact RdP.fin_ok HE.out (HB2.out.1.kp hkX (fun e=>HNe.out.1 e.symm)) (HB2.out.2.trans' hkX (fun i hi e=>by have e':i=w.heap.size:=e;omega))
     ·have hf':decide ((f:Int)<=3)=false:=decide_eq_false (by omega);have HF:Hid (RdP r w k o (.panicked ef) w2):=RdP.fin_no (by
       rw[HO.out,HQ.out,Option.bind_some];simp only;rw[HQ2.out,Option.bind_some];simp only;rw[if_neg hf]
       rfl) HB2.out.2
      clear h2 kp2 hq2 hA2 hV2 hf;go_wp2_with fail;refine(HM0.out _ _).mono ?_;rintro e w3 ⟨rfl,hz⟩;replace hz:=hz.symm;subst hz;go_wp2_with fail;exact⟨rfl,HF.out⟩
def zVl:Vl:=⟨0,0,⟨#[]⟩,false,0⟩
def rVf (k:Nat) (l:List UInt8):Option (Vl×List UInt8):=
 if k=1 then (rDbl l).map fun p=>({ zVl with k:=1,x:=p.1 },p.2) else if k=2 then (rTxt l).map fun p=>({ zVl with k:=2,s:=p.1 },p.2) else
 if k=3 then (rTr l).map fun p=>({ zVl with k:=3,b:=p.1 },p.2) else if k=4 then (rNum 1 l).map fun p=>({ zVl with k:=4,f:=p.1 },p.2) else some ({ zVl with k:=k },l)
def rVl (l:List UInt8):Option (Vl×List UInt8):=(rNum 1 l).bind fun p=>rVf p.1 p.2
theorem Vl.one24 (v:Vl):(v.cells).toArray.all (·.oneCell')=true:=by simp[Value.oneCell']
theorem jDi (r:Nat)(l:List UInt8)(k:Int)(w:World)(h:Rr w r l k):
 Calls Tryz.prog 174 #[.pointer (some ⟨r,0,none⟩)] w fun e w'=>RdP r w k ((rVl l).map fun p=>(p.1.val,p.2)) e w':=by
 obtain⟨W,hW⟩:∃W,w.alloc (.cells #[.int .i64 0,.float .f64 0,.string ⟨#[]⟩,.bool false,.int .i64 0] 59)=W:=⟨_,rfl⟩;have kp0:Kp w W Nul:=by rw[<- hW];exact(Kp.refl w Nul).alloc _
 have HBA:Hid (Blk W w.heap.size zVl.cells 59):=by show Blk _ _ _ _;rw[<- hW];exact Blk.new w zVl.cells _
 have HN:Hid (∀d w,Rr w r d k->Calls Tryz.prog 173 #[.pointer (some ⟨r,0,none⟩)] w fun e w'=>RdP r w k ((rNum 1 d).map fun p=>(.int .i64 p.1,p.2)) e w'):=fun d w h=>T9 r d k w h
 have HD1:Hid (∀d w,Rr w r d k->Calls Tryz.prog 194 #[.pointer (some ⟨r,0,none⟩)] w fun e w'=>RdP r w k ((rDbl d).map fun p=>(.float .f64 (p.1:Nat),p.2)) e w'):=fun d w h=>j5V r d k w h
 have HD2:Hid (∀d w,Rr w r d k->Calls Tryz.prog 195 #[.pointer (some ⟨r,0,none⟩)] w fun e w'=>RdP r w k ((rTxt d).map fun p=>(.string p.1,p.2)) e w'):=fun d w h=>j5v r d k w h
 have HD3:Hid (∀d w,Rr w r d k->Calls Tryz.prog 196 #[.pointer (some ⟨r,0,none⟩)] w fun e w'=>RdP r w k ((rTr d).map fun p=>(.bool p.1,p.2)) e w'):=fun d w h=>j5x r d k w h
 have HD4:Hid (∀d w,Rr w r d k->Calls Tryz.prog 173 #[.pointer (some ⟨r,0,none⟩)] w fun e w'=>RdP r w k ((rNum 1 d).map fun p=>(.int .i64 (p.1:Nat),p.2)) e w'):=fun d w h=>T9 r d k w h
 have HR0:Hid (Rr W r l k):=h.kp kp0 (fun x=>x);have HNe:Hid (¬w.heap.size=r):=by show ¬_;have:=h.lt;omega
 have HK0:Hid (Kp w W (fun i=>i=r)):=kp0.of_nul;have HW:Hid (w.alloc (.cells #[.int .i64 0,.float .f64 0,.string ⟨#[]⟩,.bool false,.int .i64 0] 59)=W):=hW;obtain⟨o,ho⟩:∃o,((rVl l).map fun p=>(p.1.val,p.2))=o:=⟨_,rfl⟩;rw[ho];have HO:Hid (o=(rVl l).map fun p=>(p.1.val,p.2)):=ho.symm;clear h ho hW kp0;go_enter Tryz.func174,Tryz.ntmps174;go_wp2_with (first|(rw[HW.out])|fail);refine(HN.out l W HR0.out).mono ?_;intro e w1 hr;cases hq:rNum 1 l with
 | none=>
  rw[hq] at hr;cases hr with
  | no kp1=>
   have HF:Hid (RdP r w k o (.panicked ef) w1):=RdP.fin_no (by rw[HO.out,rVl,hq];rfl) (HK0.out.trans kp1);go_wp2_with fail;exact⟨rfl,HF.out⟩
 | some p=>
  obtain⟨kn,d⟩:=p;rw[hq] at hr;cases hr with
  | ok h1 kp1=>
   have hA1:Blk w1 w.heap.size zVl.cells 59:=HBA.out.kp kp1 (fun e=>HNe.out e);obtain⟨w2,hw2⟩:∃w2,w1.alloc (.cells #[.int .i64 (kn:Nat),.float .f64 0,.string ⟨#[]⟩,.bool false,.int .i64 0] 59)=w2:=⟨_,rfl⟩;have kp2:Kp w1 w2 Nul:=(by rw[<- hw2];exact(Kp.refl w1 Nul).alloc _);have HB2:Hid (Rr w2 r d k/\Kp w w2 (fun i=>i=r)):=⟨h1.kp kp2 (fun x=>x),(HK0.out.trans kp1).trans kp2.of_nul⟩;have HA2:Hid (Blk w2 w.heap.size zVl.cells 59):=hA1.kp kp2 (fun x=>x);have HV2:Hid (Blk w2 w1.heap.size [.int .i64 (kn:Nat),.float .f64 0,.string ⟨#[]⟩,.bool false,.int .i64 0] 59):=(by show Blk _ _ _ _;rw[<- hw2];exact Blk.new w1 _ _);have HNv:Hid (¬w1.heap.size=r/\¬w1.heap.size=w.heap.size/\w.heap.size<=w1.heap.size):=(by show ¬_/\¬_/\_;have:=h1.lt;have:=hA1.lt;omega);have HWv:Hid (w1.alloc (.cells #[.int .i64 (kn:Nat),.float .f64 0,.string ⟨#[]⟩,.bool false,.int .i64 0] 59)=w2):=hw2
   have HQ:Hid (o=(rVf kn d).map fun p=>(p.1.val,p.2)):=(by show _=_;rw[HO.out,rVl,hq,Option.bind_some]);have l0:w2.cell? ⟨w1.heap.size,0,none⟩=some (.int .i64 (kn:Nat)):=HV2.out.cell rfl;have HEND:Hid (∀(v:Vl) d3 X Y,o=some (v.val,d3)->Rr X r d3 k->Kp w X (fun i=>i=r∨i=w1.heap.size)->Kp X Y (fun i=>i=w.heap.size)->RdP r w k o (.returned v.val) Y):=(fun v d3 X Y e1 e2 e3 e4=>RdP.fin_ok e1 (e2.kp e4 (fun e=>HNe.out e.symm)) ((e3.mono (fun i hi e=>by rcases e with e|e;exact e;have:=HNv.out;omega)).trans' e4 (fun i hi e=>by have e':i=w.heap.size:=e;omega)));clear h1 kp1 hq HBA HR0 HW hA1 hw2 kp2 HO HN
   go_upto_if 9 with (first|(rw[HWv.out])|fail)
   have hkc:kn=1∨kn=2∨kn=3∨kn=4∨(¬kn=1/\¬kn=2/\¬kn=3/\¬kn=4):=(by omega);rcases hkc with rfl|rfl|rfl|rfl|⟨n1,n2,n3,n4⟩
   ·clear HD2 HD3 HD4;go_wp2_with fail;refine(HD1.out d w2 HB2.out.1).mono ?_;intro e w3 hr;cases hq3:rDbl d with
    | none=>
     rw[hq3] at hr;cases hr with
     | no kp3=>
      have HF:Hid (RdP r w k o (.panicked ef) w3):=RdP.fin_no (by rw[HQ.out,rVf,if_pos rfl,hq3];rfl) (HB2.out.2.trans kp3);clear l0;go_wp2_with fail;exact⟨rfl,HF.out⟩
    | some p=>
     obtain⟨x,d3⟩:=p;rw[hq3] at hr;cases hr with
     | ok h3 kp3=>
      have hV3:Blk w3 w1.heap.size [.int .i64 ((1:Nat):Int),.float .f64 0,.string ⟨#[]⟩,.bool false,.int .i64 0] 59:=HV2.out.kp kp3 (fun e=>HNv.out.1 e);have HA3:Hid (Blk w3 w.heap.size zVl.cells 59):=HA2.out.kp kp3 (fun e=>HNe.out e);have c3:w3.cell? ⟨w1.heap.size,1,none⟩=some (.float .f64 0):=hV3.cell rfl;have f3:w3.frozen? ⟨w1.heap.size,1,none⟩=false:=hV3.froz 1;have HX3:Hid (Blk (w3.setCell ⟨w1.heap.size,1,none⟩ (.float .f64 x)) w1.heap.size (Vl.cells ({ zVl with k:=1,x:=x })) 59):=hV3.set 1 _;have HAX:Hid (Blk (w3.setCell ⟨w1.heap.size,1,none⟩ (.float .f64 x)) w.heap.size zVl.cells 59):=HA3.out.other _ _ (fun e=>HNv.out.2.1 e.symm);have HKX:Hid (Kp w (w3.setCell ⟨w1.heap.size,1,none⟩ (.float .f64 x)) (fun i=>i=r∨i=w1.heap.size)):=((HB2.out.2.trans kp3).mono (fun i _ e=>.inl e)).setCell _ _ (.inr (.inr rfl))
      have HRX:Hid (Rr (w3.setCell ⟨w1.heap.size,1,none⟩ (.float .f64 x)) r d3 k):=h3.other _ _ (fun e=>HNv.out.1 e.symm);have HE:Hid (o=some (Vl.val ({ zVl with k:=1,x:=x }),d3)):=(by show _=_;rw[HQ.out,rVf,if_pos rfl,hq3];rfl);have HRG:Hid ((w3.setCell ⟨w1.heap.size,1,none⟩ (.float .f64 x)).rangeAt w1.heap.size 0 (Vl.cells ({ zVl with k:=1,x:=x }))):=J6 (pre:=[]) (post:=[]) (by rw[List.append_nil];exact HX3.out);clear h3 kp3 hq3 hV3 l0;go_wp2_with (first
       | (refine wpList_load_mid rfl 59 (.tmp 3) rfl w1.heap.size 0 rfl (Vl.cells ({ zVl with k:=1,x:=x })) _ HRG.out Tryz.underlying59 rfl E7 ?_)
       | (refine G6 rfl 59 (.tmp 2) (.tmp 29) rfl w.heap.size zVl.cells (Vl.cells ({ zVl with k:=1,x:=x })) 59 HAX.out rfl rfl rfl E7 (Vl.one24 _) ?_;intro Y hbY hkY)
       | fail)
      refine bodyPost_ret (results_cell_row rfl _ _ w.heap.size 59 _ (0,0) _ rfl hbY Tryz.underlying59 rfl E7) rfl ?_;exact HEND.out _ d3 _ Y HE.out HRX.out HKX.out hkY
   ·clear HD1 HD3 HD4;go_wp2_with fail;refine(HD2.out d w2 HB2.out.1).mono ?_;intro e w3 hr;cases hq3:rTxt d with
    | none=>
     rw[hq3] at hr;cases hr with
     | no kp3=>
      have HF:Hid (RdP r w k o (.panicked ef) w3):=RdP.fin_no (by rw[HQ.out,rVf,if_neg (by decide),if_pos rfl,hq3];rfl) (HB2.out.2.trans kp3);clear l0;go_wp2_with fail;exact⟨rfl,HF.out⟩
    | some p=>
     obtain⟨x,d3⟩:=p;rw[hq3] at hr;cases hr with
     | ok h3 kp3=>
      have hV3:Blk w3 w1.heap.size [.int .i64 ((2:Nat):Int),.float .f64 0,.string ⟨#[]⟩,.bool false,.int .i64 0] 59:=HV2.out.kp kp3 (fun e=>HNv.out.1 e);have HA3:Hid (Blk w3 w.heap.size zVl.cells 59):=HA2.out.kp kp3 (fun e=>HNe.out e);have c3:w3.cell? ⟨w1.heap.size,2,none⟩=some (.string ⟨#[]⟩):=hV3.cell rfl;have f3:w3.frozen? ⟨w1.heap.size,2,none⟩=false:=hV3.froz 2;have HX3:Hid (Blk (w3.setCell ⟨w1.heap.size,2,none⟩ (.string x)) w1.heap.size (Vl.cells ({ zVl with k:=2,s:=x })) 59):=hV3.set 2 _;have HAX:Hid (Blk (w3.setCell ⟨w1.heap.size,2,none⟩ (.string x)) w.heap.size zVl.cells 59):=HA3.out.other _ _ (fun e=>HNv.out.2.1 e.symm);have HKX:Hid (Kp w (w3.setCell ⟨w1.heap.size,2,none⟩ (.string x)) (fun i=>i=r∨i=w1.heap.size)):=((HB2.out.2.trans kp3).mono (fun i _ e=>.inl e)).setCell _ _ (.inr (.inr rfl));have HRX:Hid (Rr (w3.setCell ⟨w1.heap.size,2,none⟩ (.string x)) r d3 k):=h3.other _ _ (fun e=>HNv.out.1 e.symm)
      have HE:Hid (o=some (Vl.val ({ zVl with k:=2,s:=x }),d3)):=(by show _=_;rw[HQ.out,rVf,if_neg (by decide),if_pos rfl,hq3];rfl);have HRG:Hid ((w3.setCell ⟨w1.heap.size,2,none⟩ (.string x)).rangeAt w1.heap.size 0 (Vl.cells ({ zVl with k:=2,s:=x }))):=J6 (pre:=[]) (post:=[]) (by rw[List.append_nil];exact HX3.out);clear h3 kp3 hq3 hV3 l0;go_wp2_with (first
       | (refine wpList_load_mid rfl 59 (.tmp 3) rfl w1.heap.size 0 rfl (Vl.cells ({ zVl with k:=2,s:=x })) _ HRG.out Tryz.underlying59 rfl E7 ?_)
       | (refine G6 rfl 59 (.tmp 2) (.tmp 29) rfl w.heap.size zVl.cells (Vl.cells ({ zVl with k:=2,s:=x })) 59 HAX.out rfl rfl rfl E7 (Vl.one24 _) ?_;intro Y hbY hkY)
       | fail)
      refine bodyPost_ret (results_cell_row rfl _ _ w.heap.size 59 _ (0,0) _ rfl hbY Tryz.underlying59 rfl E7) rfl ?_;exact HEND.out _ d3 _ Y HE.out HRX.out HKX.out hkY
   ·clear HD1 HD2 HD4;go_wp2_with fail;refine(HD3.out d w2 HB2.out.1).mono ?_;intro e w3 hr;cases hq3:rTr d with
    | none=>
     rw[hq3] at hr;cases hr with
     | no kp3=>
      have HF:Hid (RdP r w k o (.panicked ef) w3):=RdP.fin_no (by rw[HQ.out,rVf,if_neg (by decide),if_neg (by decide),if_pos rfl,hq3];rfl) (HB2.out.2.trans kp3);clear l0;go_wp2_with fail;exact⟨rfl,HF.out⟩
    | some p=>
     obtain⟨x,d3⟩:=p;rw[hq3] at hr;cases hr with
     | ok h3 kp3=>
      have hV3:Blk w3 w1.heap.size [.int .i64 ((3:Nat):Int),.float .f64 0,.string ⟨#[]⟩,.bool false,.int .i64 0] 59:=HV2.out.kp kp3 (fun e=>HNv.out.1 e);have HA3:Hid (Blk w3 w.heap.size zVl.cells 59):=HA2.out.kp kp3 (fun e=>HNe.out e);have c3:w3.cell? ⟨w1.heap.size,3,none⟩=some (.bool false):=hV3.cell rfl;have f3:w3.frozen? ⟨w1.heap.size,3,none⟩=false:=hV3.froz 3;have HX3:Hid (Blk (w3.setCell ⟨w1.heap.size,3,none⟩ (.bool x)) w1.heap.size (Vl.cells ({ zVl with k:=3,b:=x })) 59):=hV3.set 3 _;have HAX:Hid (Blk (w3.setCell ⟨w1.heap.size,3,none⟩ (.bool x)) w.heap.size zVl.cells 59):=HA3.out.other _ _ (fun e=>HNv.out.2.1 e.symm);have HKX:Hid (Kp w (w3.setCell ⟨w1.heap.size,3,none⟩ (.bool x)) (fun i=>i=r∨i=w1.heap.size)):=((HB2.out.2.trans kp3).mono (fun i _ e=>.inl e)).setCell _ _ (.inr (.inr rfl));have HRX:Hid (Rr (w3.setCell ⟨w1.heap.size,3,none⟩ (.bool x)) r d3 k):=h3.other _ _ (fun e=>HNv.out.1 e.symm)
      have HE:Hid (o=some (Vl.val ({ zVl with k:=3,b:=x }),d3)):=(by show _=_;rw[HQ.out,rVf,if_neg (by decide),if_neg (by decide),if_pos rfl,hq3];rfl);have HRG:Hid ((w3.setCell ⟨w1.heap.size,3,none⟩ (.bool x)).rangeAt w1.heap.size 0 (Vl.cells ({ zVl with k:=3,b:=x }))):=J6 (pre:=[]) (post:=[]) (by rw[List.append_nil];exact HX3.out);clear h3 kp3 hq3 hV3 l0;go_wp2_with (first
       | (refine wpList_load_mid rfl 59 (.tmp 3) rfl w1.heap.size 0 rfl (Vl.cells ({ zVl with k:=3,b:=x })) _ HRG.out Tryz.underlying59 rfl E7 ?_)
       | (refine G6 rfl 59 (.tmp 2) (.tmp 29) rfl w.heap.size zVl.cells (Vl.cells ({ zVl with k:=3,b:=x })) 59 HAX.out rfl rfl rfl E7 (Vl.one24 _) ?_;intro Y hbY hkY)
       | fail)
      refine bodyPost_ret (results_cell_row rfl _ _ w.heap.size 59 _ (0,0) _ rfl hbY Tryz.underlying59 rfl E7) rfl ?_;exact HEND.out _ d3 _ Y HE.out HRX.out HKX.out hkY
   ·clear HD1 HD2 HD3;go_wp2_with fail;refine(HD4.out d w2 HB2.out.1).mono ?_;intro e w3 hr;cases hq3:rNum 1 d with
    | none=>
     rw[hq3] at hr;cases hr with
     | no kp3=>
      have HF:Hid (RdP r w k o (.panicked ef) w3):=RdP.fin_no (by rw[HQ.out,rVf,if_neg (by decide),if_neg (by decide),if_neg (by decide),if_pos rfl,hq3];rfl) (HB2.out.2.trans kp3);clear l0;go_wp2_with fail;exact⟨rfl,HF.out⟩
    | some p=>
     obtain⟨x,d3⟩:=p;rw[hq3] at hr;cases hr with
     | ok h3 kp3=>
      have hV3:Blk w3 w1.heap.size [.int .i64 ((4:Nat):Int),.float .f64 0,.string ⟨#[]⟩,.bool false,.int .i64 0] 59:=HV2.out.kp kp3 (fun e=>HNv.out.1 e);have HA3:Hid (Blk w3 w.heap.size zVl.cells 59):=HA2.out.kp kp3 (fun e=>HNe.out e);have c3:w3.cell? ⟨w1.heap.size,4,none⟩=some (.int .i64 0):=hV3.cell rfl;have f3:w3.frozen? ⟨w1.heap.size,4,none⟩=false:=hV3.froz 4;have HX3:Hid (Blk (w3.setCell ⟨w1.heap.size,4,none⟩ (.int .i64 (x:Nat))) w1.heap.size (Vl.cells ({ zVl with k:=4,f:=x })) 59):=hV3.set 4 _;have HAX:Hid (Blk (w3.setCell ⟨w1.heap.size,4,none⟩ (.int .i64 (x:Nat))) w.heap.size zVl.cells 59):=HA3.out.other _ _ (fun e=>HNv.out.2.1 e.symm);have HKX:Hid (Kp w (w3.setCell ⟨w1.heap.size,4,none⟩ (.int .i64 (x:Nat))) (fun i=>i=r∨i=w1.heap.size)):=((HB2.out.2.trans kp3).mono (fun i _ e=>.inl e)).setCell _ _ (.inr (.inr rfl))
      have HRX:Hid (Rr (w3.setCell ⟨w1.heap.size,4,none⟩ (.int .i64 (x:Nat))) r d3 k):=h3.other _ _ (fun e=>HNv.out.1 e.symm);have HE:Hid (o=some (Vl.val ({ zVl with k:=4,f:=x }),d3)):=(by show _=_;rw[HQ.out,rVf,if_neg (by decide),if_neg (by decide),if_neg (by decide),if_pos rfl,hq3];rfl);have HRG:Hid ((w3.setCell ⟨w1.heap.size,4,none⟩ (.int .i64 (x:Nat))).rangeAt w1.heap.size 0 (Vl.cells ({ zVl with k:=4,f:=x }))):=J6 (pre:=[]) (post:=[]) (by rw[List.append_nil];exact HX3.out);clear h3 kp3 hq3 hV3 l0;go_wp2_with (first
       | (refine wpList_load_mid rfl 59 (.tmp 3) rfl w1.heap.size 0 rfl (Vl.cells ({ zVl with k:=4,f:=x })) _ HRG.out Tryz.underlying59 rfl E7 ?_)
       | (refine G6 rfl 59 (.tmp 2) (.tmp 29) rfl w.heap.size zVl.cells (Vl.cells ({ zVl with k:=4,f:=x })) 59 HAX.out rfl rfl rfl E7 (Vl.one24 _) ?_;intro Y hbY hkY)
       | fail)
      refine bodyPost_ret (results_cell_row rfl _ _ w.heap.size 59 _ (0,0) _ rfl hbY Tryz.underlying59 rfl E7) rfl ?_;exact HEND.out _ d3 _ Y HE.out HRX.out HKX.out hkY
   ·clear HD1 HD2 HD3 HD4;have m1:¬(kn:Int)=1:=(by omega);have m2:¬(kn:Int)=2:=(by omega);have m3:¬(kn:Int)=3:=(by omega);have m4:¬(kn:Int)=4:=(by omega);have HE:Hid (o=some (Vl.val { zVl with k:=(kn:Nat) },d)):=(by show _=_;rw[HQ.out,rVf,if_neg n1,if_neg n2,if_neg n3,if_neg n4];rfl);have HRG:Hid (w2.rangeAt w1.heap.size 0 (Vl.cells { zVl with k:=(kn:Nat) })):=J6 (pre:=[]) (post:=[]) (by rw[List.append_nil];exact HV2.out);clear n1 n2 n3 n4;go_wp2_with (first
     | (refine wpList_load_mid rfl 59 (.tmp 3) rfl w1.heap.size 0 rfl (Vl.cells { zVl with k:=(kn:Nat) }) _ HRG.out Tryz.underlying59 rfl E7 ?_)
     | (refine G6 rfl 59 (.tmp 2) (.tmp 29) rfl w.heap.size zVl.cells (Vl.cells { zVl with k:=(kn:Nat) }) 59 HA2.out rfl rfl rfl E7 (Vl.one24 _) ?_;intro Y hbY hkY)
     | fail)
    refine bodyPost_ret (results_cell_row rfl _ _ w.heap.size 59 _ (0,0) _ rfl hbY Tryz.underlying59 rfl E7) rfl ?_;exact HEND.out _ d w2 Y HE.out HB2.out.1 (HB2.out.2.mono (fun i _ e=>.inl e)) hkY
def rF (i:Nat) (h:Hd) (l:List UInt8):Option (Hd×List UInt8):=
 if i=1 then (rDbl l).map fun p=>({ h with x:=p.1 },p.2) else if i=2 then (rTxt l).map fun p=>({ h with s:=p.1 },p.2) else
 if i=3 then (rTr l).map fun p=>({ h with b:=p.1 },p.2) else if i=4 then (rNum 1 l).map fun p=>({ h with f:=(p.1:Nat) },p.2) else
 if i=5 then (rRef l).map fun p=>({ h with c1:=(p.1.1:Nat),r1:=(p.1.2.1:Nat),p1:=p.1.2.2.1,q1:=p.1.2.2.2 },p.2) else
 if i=6 then (rRef l).map fun p=>({ h with c2:=(p.1.1:Nat),r2:=(p.1.2.1:Nat),p2:=p.1.2.2.1,q2:=p.1.2.2.2 },p.2) else
 if i=7 then (rNum 1 l).map fun p=>({ h with o:=(p.1:Nat) },p.2) else some (h,l)
inductive RfP (r nb:Nat) (sl:Value) (w:World) (k:Int):Option (Hd×List UInt8)->Ending->World->Prop
 | ok {h:Hd} {l:List UInt8} {w':World} (h1:Rr w' r l k) (h2:Blk w' nb (h.cells sl) 64) (kp:Kp w w' (fun i=>i=r∨i=nb)):RfP r nb sl w k (some (h,l)) (.returned (.tuple #[])) w'
 | no {w':World} (kp:Kp w w' (fun i=>i=r∨i=nb)):RfP r nb sl w k none (.panicked ef) w'
theorem RfP.fin_ok {r nb:Nat}{sl:Value}{w:World}{k:Int}{o:Option (Hd×List UInt8)}{h:Hd}{l:List UInt8}{w':World}(e:o=some (h,l))(h1:Rr w' r l k)(h2:Blk w' nb (h.cells sl) 64)(kp:Kp w w' (fun i=>i=r∨i=nb)):RfP r nb sl w k o (.returned (.tuple #[])) w':=by rw[e];exact .ok h1 h2 kp
theorem RfP.fin_no {r nb:Nat}{sl:Value}{w:World}{k:Int}{o:Option (Hd×List UInt8)}{w':World}(e:o=none)(kp:Kp w w' (fun i=>i=r∨i=nb)):RfP r nb sl w k o (.panicked ef) w':=by rw[e];exact .no kp
theorem jCn (r nb:Nat)(l:List UInt8)(k:Int)(h:Hd)(sl:Value)(i:Nat)(w:World)(hi:i<8)(hne:¬nb=r)(hr:Rr w r l k)(hb:Blk w nb (h.cells sl) 64):
 Calls Tryz.prog 197 #[.pointer (some ⟨r,0,none⟩),.pointer (some ⟨nb,0,none⟩),.int .i64 i] w fun e w'=>RfP r nb sl w k (rF i h l) e w':=by
 have HR:Hid (Rr w r l k):=hr;have HB:Hid (Blk w nb (h.cells sl) 64):=hb;have HNe:Hid (¬nb=r):=hne;obtain⟨o,ho⟩:∃o,rF i h l=o:=⟨_,rfl⟩;rw[ho];have HO:Hid (o=rF i h l):=ho.symm;have HNO:Hid (∀w',o=none->Kp w w' (fun j=>j=r)->RfP r nb sl w k o (.panicked ef) w'):=fun w' e kp=>RfP.fin_no e (kp.mono (fun j _ q=>.inl q))
 have hic:i=0∨i=1∨i=2∨i=3∨i=4∨i=5∨i=6∨i=7:=by omega
 clear ho hr hb hne hi;go_enter Tryz.func197,Tryz.ntmps197;rcases hic with rfl|rfl|rfl|rfl|rfl|rfl|rfl|rfl
 ·have HF:Hid (RfP r nb sl w k o (.returned (.tuple #[])) w):=RfP.fin_ok (by rw[HO.out];rfl) HR.out HB.out (Kp.refl _ _);go_wp2_with fail
  go_end0
  exact HF.out
 ·have HC:Hid (Calls Tryz.prog 194 #[.pointer (some ⟨r,0,none⟩)] w fun e w'=>RdP r w k ((rDbl l).map fun p=>(.float .f64 (p.1:Nat),p.2)) e w'):=j5V r l k w HR.out;go_wp2_with fail;refine HC.out.mono ?_;intro e w1 hr;cases hq:rDbl l with
  | none=>
   rw[hq] at hr;cases hr with
   | no kp1=>
    have HF:=HNO.out w1 (by rw[HO.out,rF,if_pos rfl,hq];rfl) kp1;have HF:Hid (RfP r nb sl w k o (.panicked ef) w1):=HF;go_wp2_with fail;exact⟨rfl,HF.out⟩
  | some p=>
   obtain⟨x,d⟩:=p;rw[hq] at hr;cases hr with
   | ok h1 kp1=>
    have hB1:Blk w1 nb (h.cells sl) 64:=HB.out.kp kp1 (fun e=>HNe.out e);have c1:w1.cell? ⟨nb,2,none⟩=some (.float .f64 h.x):=hB1.cell rfl;have f1:w1.frozen? ⟨nb,2,none⟩=false:=hB1.froz 2;have HF:Hid (RfP r nb sl w k o (.returned (.tuple #[])) (w1.setCell ⟨nb,2,none⟩ (.float .f64 x))):=RfP.fin_ok (h:={ h with x:=x }) (l:=d) (by rw[HO.out,rF,if_pos rfl,hq];rfl) (h1.other _ _ (fun e=>HNe.out e.symm)) (hB1.set 2 _) ((kp1.mono (fun j _ q=>.inl q)).setCell _ _ (.inr (.inr rfl)));clear h1 kp1 hq HC hB1;go_wp2_with fail
    go_end0
    exact HF.out
 ·have HC:Hid (Calls Tryz.prog 195 #[.pointer (some ⟨r,0,none⟩)] w fun e w'=>RdP r w k ((rTxt l).map fun p=>(.string p.1,p.2)) e w'):=j5v r l k w HR.out;go_wp2_with fail;refine HC.out.mono ?_;intro e w1 hr;cases hq:rTxt l with
  | none=>
   rw[hq] at hr;cases hr with
   | no kp1=>
    have HF:=HNO.out w1 (by rw[HO.out,rF,if_neg (by decide),if_pos rfl,hq];rfl) kp1;have HF:Hid (RfP r nb sl w k o (.panicked ef) w1):=HF;go_wp2_with fail;exact⟨rfl,HF.out⟩
  | some p=>
   obtain⟨x,d⟩:=p;rw[hq] at hr;cases hr with
   | ok h1 kp1=>
    have hB1:Blk w1 nb (h.cells sl) 64:=HB.out.kp kp1 (fun e=>HNe.out e);have c1:w1.cell? ⟨nb,3,none⟩=some (.string h.s):=hB1.cell rfl;have f1:w1.frozen? ⟨nb,3,none⟩=false:=hB1.froz 3;have HF:Hid (RfP r nb sl w k o (.returned (.tuple #[])) (w1.setCell ⟨nb,3,none⟩ (.string x))):=RfP.fin_ok (h:={ h with s:=x }) (l:=d) (by rw[HO.out,rF,if_neg (by decide),if_pos rfl,hq];rfl) (h1.other _ _ (fun e=>HNe.out e.symm)) (hB1.set 3 _) ((kp1.mono (fun j _ q=>.inl q)).setCell _ _ (.inr (.inr rfl)));clear h1 kp1 hq HC hB1;go_wp2_with fail
    go_end0
    exact HF.out
 ·have HC:Hid (Calls Tryz.prog 196 #[.pointer (some ⟨r,0,none⟩)] w fun e w'=>RdP r w k ((rTr l).map fun p=>(.bool p.1,p.2)) e w'):=j5x r l k w HR.out;go_wp2_with fail;refine HC.out.mono ?_;intro e w1 hr;cases hq:rTr l with
  | none=>
   rw[hq] at hr;cases hr with
   | no kp1=>
    have HF:=HNO.out w1 (by rw[HO.out,rF,if_neg (by decide),if_neg (by decide),if_pos rfl,hq];rfl) kp1;have HF:Hid (RfP r nb sl w k o (.panicked ef) w1):=HF;go_wp2_with fail;exact⟨rfl,HF.out⟩
  | some p=>
   obtain⟨x,d⟩:=p;rw[hq] at hr;cases hr with
   | ok h1 kp1=>
    have hB1:Blk w1 nb (h.cells sl) 64:=HB.out.kp kp1 (fun e=>HNe.out e);have c1:w1.cell? ⟨nb,4,none⟩=some (.bool h.b):=hB1.cell rfl;have f1:w1.frozen? ⟨nb,4,none⟩=false:=hB1.froz 4;have HF:Hid (RfP r nb sl w k o (.returned (.tuple #[])) (w1.setCell ⟨nb,4,none⟩ (.bool x))):=RfP.fin_ok (h:={ h with b:=x }) (l:=d) (by rw[HO.out,rF,if_neg (by decide),if_neg (by decide),if_pos rfl,hq];rfl) (h1.other _ _ (fun e=>HNe.out e.symm)) (hB1.set 4 _) ((kp1.mono (fun j _ q=>.inl q)).setCell _ _ (.inr (.inr rfl)));clear h1 kp1 hq HC hB1;go_wp2_with fail
    go_end0
    exact HF.out
 ·have HC:Hid (Calls Tryz.prog 173 #[.pointer (some ⟨r,0,none⟩)] w fun e w'=>RdP r w k ((rNum 1 l).map fun p=>(.int .i64 (p.1:Nat),p.2)) e w'):=T9 r l k w HR.out;go_wp2_with fail;refine HC.out.mono ?_;intro e w1 hr;cases hq:rNum 1 l with
  | none=>
   rw[hq] at hr;cases hr with
   | no kp1=>
    have HF:=HNO.out w1 (by rw[HO.out,rF,if_neg (by decide),if_neg (by decide),if_neg (by decide),if_pos rfl,hq];rfl) kp1;have HF:Hid (RfP r nb sl w k o (.panicked ef) w1):=HF;go_wp2_with fail;exact⟨rfl,HF.out⟩
  | some p=>
   obtain⟨x,d⟩:=p;rw[hq] at hr;cases hr with
   | ok h1 kp1=>
    have hB1:Blk w1 nb (h.cells sl) 64:=HB.out.kp kp1 (fun e=>HNe.out e);have c1:w1.cell? ⟨nb,5,none⟩=some (.int .i64 h.f):=hB1.cell rfl;have f1:w1.frozen? ⟨nb,5,none⟩=false:=hB1.froz 5;have HF:Hid (RfP r nb sl w k o (.returned (.tuple #[])) (w1.setCell ⟨nb,5,none⟩ (.int .i64 (x:Nat)))):=RfP.fin_ok (h:={ h with f:=(x:Nat) }) (l:=d) (by rw[HO.out,rF,if_neg (by decide),if_neg (by decide),if_neg (by decide),if_pos rfl,hq];rfl) (h1.other _ _ (fun e=>HNe.out e.symm)) (hB1.set 5 _) ((kp1.mono (fun j _ q=>.inl q)).setCell _ _ (.inr (.inr rfl)));clear h1 kp1 hq HC hB1;go_wp2_with fail
    go_end0
    exact HF.out
 ·have HC:Hid (Calls Tryz.prog 218 #[.pointer (some ⟨r,0,none⟩)] w fun e w'=>RdP r w k ((rRef l).map fun p=>(.agg #[.int .i64 p.1.1,.int .i64 p.1.2.1,.bool p.1.2.2.1,.bool p.1.2.2.2],p.2)) e w'):=j5s r l k w HR.out;go_wp2_with fail;refine HC.out.mono ?_;intro e w1 hr;cases hq:rRef l with
  | none=>
   rw[hq] at hr;cases hr with
   | no kp1=>
    have HF:=HNO.out w1 (by rw[HO.out,rF,if_neg (by decide),if_neg (by decide),if_neg (by decide),if_neg (by decide),if_pos rfl,hq];rfl) kp1;have HF:Hid (RfP r nb sl w k o (.panicked ef) w1):=HF;go_wp2_with fail;exact⟨rfl,HF.out⟩
  | some p=>
   obtain⟨⟨x,y,pb,qb⟩,d⟩:=p;rw[hq] at hr;cases hr with
   | ok h1 kp1=>
    have HB1:Hid (Blk w1 nb ([.int .i64 h.k,.int .i64 h.o,.float .f64 h.x,.string h.s,.bool h.b,.int .i64 h.f]++[.int .i64 h.c1,.int .i64 h.r1,.bool h.p1,.bool h.q1]++[.int .i64 h.c2,.int .i64 h.r2,.bool h.p2,.bool h.q2,sl]) 64):=HB.out.kp kp1 (fun e=>HNe.out e);have HR1:Hid (Rr w1 r d k/\Kp w w1 (fun j=>j=r)):=⟨h1,kp1⟩;have HE:Hid (o=some ({ h with c1:=(x:Nat),r1:=(y:Nat),p1:=pb,q1:=qb },d)):=(by show _=_;rw[HO.out,rF,if_neg (by decide),if_neg (by decide),if_neg (by decide),if_neg (by decide),if_pos rfl,hq];rfl);clear h1 kp1 hq HC;go_wp2_with (first|(refine j0t rfl 61 (.tmp 41) (.tmp 39) rfl nb 6 [.int .i64 h.k,.int .i64 h.o,.float .f64 h.x,.string h.s,.bool h.b,.int .i64 h.f] [.int .i64 h.c1,.int .i64 h.r1,.bool h.p1,.bool h.q1] [.int .i64 h.c2,.int .i64 h.r2,.bool h.p2,.bool h.q2,sl] [.int .i64 (x:Nat),.int .i64 (y:Nat),.bool pb,.bool qb] 64 HB1.out rfl rfl rfl rfl j05 (by simp[Value.oneCell']) ?_;intro X hbX hkX)|fail)
    go_end0
    exact RfP.fin_ok HE.out (HR1.out.1.kp hkX (fun e=>HNe.out e.symm)) hbX ((HR1.out.2.mono (fun j _ q=>.inl q)).trans (hkX.mono (fun j _ q=>.inr q)))
 ·have HC:Hid (Calls Tryz.prog 218 #[.pointer (some ⟨r,0,none⟩)] w fun e w'=>RdP r w k ((rRef l).map fun p=>(.agg #[.int .i64 p.1.1,.int .i64 p.1.2.1,.bool p.1.2.2.1,.bool p.1.2.2.2],p.2)) e w'):=j5s r l k w HR.out;go_wp2_with fail;refine HC.out.mono ?_;intro e w1 hr;cases hq:rRef l with
  | none=>
   rw[hq] at hr;cases hr with
   | no kp1=>
    have HF:=HNO.out w1 (by rw[HO.out,rF,if_neg (by decide),if_neg (by decide),if_neg (by decide),if_neg (by decide),if_neg (by decide),if_pos rfl,hq];rfl) kp1;have HF:Hid (RfP r nb sl w k o (.panicked ef) w1):=HF;go_wp2_with fail;exact⟨rfl,HF.out⟩
  | some p=>
   obtain⟨⟨x,y,pb,qb⟩,d⟩:=p;rw[hq] at hr;cases hr with
   | ok h1 kp1=>
    have HB1:Hid (Blk w1 nb ([.int .i64 h.k,.int .i64 h.o,.float .f64 h.x,.string h.s,.bool h.b,.int .i64 h.f,.int .i64 h.c1,.int .i64 h.r1,.bool h.p1,.bool h.q1]++[.int .i64 h.c2,.int .i64 h.r2,.bool h.p2,.bool h.q2]++[sl]) 64):=HB.out.kp kp1 (fun e=>HNe.out e);have HR1:Hid (Rr w1 r d k/\Kp w w1 (fun j=>j=r)):=⟨h1,kp1⟩;have HE:Hid (o=some ({ h with c2:=(x:Nat),r2:=(y:Nat),p2:=pb,q2:=qb },d)):=(by show _=_;rw[HO.out,rF,if_neg (by decide),if_neg (by decide),if_neg (by decide),if_neg (by decide),if_neg (by decide),if_pos rfl,hq];rfl);clear h1 kp1 hq HC;go_wp2_with (first|(refine j0t rfl 61 (.tmp 48) (.tmp 46) rfl nb 10 [.int .i64 h.k,.int .i64 h.o,.float .f64 h.x,.string h.s,.bool h.b,.int .i64 h.f,.int .i64 h.c1,.int .i64 h.r1,.bool h.p1,.bool h.q1] [.int .i64 h.c2,.int .i64 h.r2,.bool h.p2,.bool h.q2] [sl] [.int .i64 (x:Nat),.int .i64 (y:Nat),.bool pb,.bool qb] 64 HB1.out rfl rfl rfl rfl j05 (by simp[Value.oneCell']) ?_;intro X hbX hkX)|fail)
    go_end0
    exact RfP.fin_ok HE.out (HR1.out.1.kp hkX (fun e=>HNe.out e.symm)) hbX ((HR1.out.2.mono (fun j _ q=>.inl q)).trans (hkX.mono (fun j _ q=>.inr q)))
 ·have HC:Hid (Calls Tryz.prog 173 #[.pointer (some ⟨r,0,none⟩)] w fun e w'=>RdP r w k ((rNum 1 l).map fun p=>(.int .i64 (p.1:Nat),p.2)) e w'):=T9 r l k w HR.out;go_wp2_with fail;refine HC.out.mono ?_;intro e w1 hr;cases hq:rNum 1 l with
  | none=>
   rw[hq] at hr;cases hr with
   | no kp1=>
    have HF:=HNO.out w1 (by rw[HO.out,rF,if_neg (by decide),if_neg (by decide),if_neg (by decide),if_neg (by decide),if_neg (by decide),if_neg (by decide),if_pos rfl,hq];rfl) kp1;have HF:Hid (RfP r nb sl w k o (.panicked ef) w1):=HF;go_wp2_with fail;exact⟨rfl,HF.out⟩
  | some p=>
   obtain⟨x,d⟩:=p;rw[hq] at hr;cases hr with
   | ok h1 kp1=>
    have hB1:Blk w1 nb (h.cells sl) 64:=HB.out.kp kp1 (fun e=>HNe.out e);have c1:w1.cell? ⟨nb,1,none⟩=some (.int .i64 h.o):=hB1.cell rfl;have f1:w1.frozen? ⟨nb,1,none⟩=false:=hB1.froz 1;have HF:Hid (RfP r nb sl w k o (.returned (.tuple #[])) (w1.setCell ⟨nb,1,none⟩ (.int .i64 (x:Nat)))):=RfP.fin_ok (h:={ h with o:=(x:Nat) }) (l:=d) (by rw[HO.out,rF,if_neg (by decide),if_neg (by decide),if_neg (by decide),if_neg (by decide),if_neg (by decide),if_neg (by decide),if_pos rfl,hq];rfl) (h1.other _ _ (fun e=>HNe.out e.symm)) (hB1.set 1 _) ((kp1.mono (fun j _ q=>.inl q)).setCell _ _ (.inr (.inr rfl)));clear h1 kp1 hq HC hB1;go_wp2_with fail
    go_end0
    exact HF.out
end
section
open Go.RowKit Go.Shelf
theorem j2p (R:Nat->List UInt8->Option (Nd×Nat×List UInt8)):∀(a b f:Nat) (l:List UInt8),F2 R (a+b) f l=(F2 R a f l).bind fun p=>(F2 R b p.2.1 p.2.2).map fun q=>(p.1++q.1,q.2.1,q.2.2)
 | 0,b,f,l=>by
  rw[Nat.zero_add,F2,Option.bind_some];cases F2 R b f l with
  | none=>rfl
  | some q=>rfl
 | a+1,b,f,l=>by
  rw[show a+1+b=(a+b)+1 by omega,F2,F2];cases R f l with
  | none=>rfl
  | some p=>
   rw[Option.bind_some,Option.bind_some,j2p R a b];cases F2 R a p.2.1 p.2.2 with
   | none=>rfl
   | some q=>
    rw[Option.bind_some,Option.map_some,Option.bind_some];cases F2 R b q.2.1 q.2.2 with
    | none=>rfl
    | some s=>rfl
theorem j5I {R:Nat->List UInt8->Option (Nd×Nat×List UInt8)}{i c f f':Nat}{l l':List UInt8}{us:List Nd}(h:F2 R i f l=some (us,f',l'))(hi:i<c)(hn:R f' l'=none):F2 R c f l=none:=by
 rw[show c=i+((c-i-1)+1) by omega,j2p,h,Option.bind_some,F2];simp only;rw[hn]
 rfl
theorem j5H {R:Nat->List UInt8->Option (Nd×Nat×List UInt8)}{i f f' f2:Nat}{l l' l2:List UInt8}{us:List Nd}{t:Nd}(h:F2 R i f l=some (us,f',l'))(hn:R f' l'=some (t,f2,l2)):F2 R (i+1) f l=some (us++[t],f2,l2):=by
 rw[j2p,h,Option.bind_some,F2];simp only;rw[hn,Option.bind_some,F2]
 rfl
theorem jC9 {k:Nat}(hk:k<10)(l:List UInt8):rFld k l=(rF (sh0 k) { zHd with k:=(k:Nat) } l).bind fun p=>(rF (sh1 k) p.1 p.2).bind fun q=>if shC k=true then (rNum 1 q.2).map fun c=>((q.1,c.1),c.2) else some ((q.1,shP k),q.2):=by
 have hcases:k=0∨k=1∨k=2∨k=3∨k=4∨k=5∨k=6∨k=7∨k=8∨k=9:=by omega
 rcases hcases with rfl|rfl|rfl|rfl|rfl|rfl|rfl|rfl|rfl|rfl
 ·rfl
 ·show (rDbl l).map _=((rDbl l).map _).bind _;cases rDbl l with
  | none=>rfl
  | some p=>rfl
 ·show (rTxt l).map _=((rTxt l).map _).bind _;cases rTxt l with
  | none=>rfl
  | some p=>rfl
 ·show (rTr l).map _=((rTr l).map _).bind _;cases rTr l with
  | none=>rfl
  | some p=>rfl
 ·show (rNum 1 l).map _=((rNum 1 l).map _).bind _;cases rNum 1 l with
  | none=>rfl
  | some p=>rfl
 ·show (rRef l).map _=((rRef l).map _).bind _;cases rRef l with
  | none=>rfl
  | some p=>rfl
 ·show (rRef l).bind _=((rRef l).map _).bind _;cases rRef l with
  | none=>rfl
  | some p=>
   rw[Option.bind_some,Option.map_some,Option.bind_some];show (rRef p.2).map _=((rRef p.2).map _).bind _;cases rRef p.2 with
   | none=>rfl
   | some q=>rfl
 ·show (rNum 1 l).map _=((rNum 1 l).map _).bind _;cases rNum 1 l with
  | none=>rfl
  | some p=>rfl
 ·show (rNum 1 l).map _=((rNum 1 l).map _).bind _;cases rNum 1 l with
  | none=>rfl
  | some p=>rfl
 ·show (rTxt l).bind _=((rTxt l).map _).bind _;cases rTxt l with
  | none=>rfl
  | some p=>rfl
theorem jBc {w:World}{B g n c:Nat}{xs zs ys:List Value}(h:w.ownsRow B 64 15 (.slice (some ⟨g,0,none⟩) (n+1) c) (n+1) (xs++zs))(hx:xs.length=n*15)(hz:zs.length=15)(hy:ys.length=15):
 w.there g (n*15) 15/\(w.setCells g (n*15) ys).ownsRow B 64 15 (.slice (some ⟨g,0,none⟩) (n+1) c) (n+1) (xs++ys):=by
 rcases h.2 with ⟨h1,_⟩|⟨g',c',cur,e,h2,h3,h4,h5,h6,h7⟩
 ·cases h1
 ·injection e with e1 e2 e3;injection e1 with e1;injection e1 with e1;subst e1 e3;have hcur:cur=((xs++zs)++cur.toList.drop ((n+1)*15)).toArray:=by
   rw[<- h7,List.take_append_drop]
  have h3':=h3;rw[hcur] at h3';refine⟨I1 h3 _ _ (by rw[h6];omega),⟨by rw[List.length_append];omega,.inr ⟨g,c,(xs++ys++cur.toList.drop ((n+1)*15)).toArray,rfl,h2,?_,h4,h5,?_,?_⟩⟩⟩
  ·have:=j04 ys (n*15) w _ h3';rw[<- hx,j62 xs zs _ ys (by omega)] at this;rw[<- hx];exact this
  ·have hl:cur.toList.length=c*15:=(by rw[Array.length_toList];exact h6);rw[List.size_toArray,List.length_append,List.length_append,List.length_drop,hl];omega
  ·have e:(n+1)*15=(xs++ys).length:=(by rw[List.length_append];omega);show List.take ((n+1)*15) (xs++ys++cur.toList.drop ((n+1)*15))=_;rw[e,List.take_left]
section
variable {P:Program} {ops:Array Oper} {Q:Exit->Act->World->Prop} {md:Region.Mode} {S:World->Prop} {z:Nat}
end
end
section
open Go.RowKit Go.Shelf
def rFs (k:Nat) (d:List UInt8) (i:Nat):Option (Hd×List UInt8):=
 if i=0 then some ({ zHd with k:=(k:Nat) },d) else if i=1 then rF (sh0 k) { zHd with k:=(k:Nat) } d else (rF (sh0 k) { zHd with k:=(k:Nat) } d).bind fun p=>rF (sh1 k) p.1 p.2
theorem j5G (k:Nat)(d:List UInt8):rFs k d 0=some ({ zHd with k:=(k:Nat) },d):=rfl
theorem jCC {k:Nat}{d l:List UInt8}{h:Hd}(e:rFs k d 0=some (h,l)):rFs k d 1=rF (sh0 k) h l:=by
 rw[j5G] at e;injection e with e;injection e with e1 e2;subst e1 e2
 rfl
theorem jCD {k:Nat}{d l:List UInt8}{h:Hd}(e:rFs k d 1=some (h,l)):rFs k d 2=rF (sh1 k) h l:=by
 have e':rF (sh0 k) { zHd with k:=(k:Nat) } d=some (h,l):=e;show (rF (sh0 k) { zHd with k:=(k:Nat) } d).bind _=_;rw[e']
 rfl
theorem jCB {k:Nat}{d:List UInt8}(e:rFs k d 1=none):rFs k d 2=none:=by
 have e':rF (sh0 k) { zHd with k:=(k:Nat) } d=none:=e;show (rF (sh0 k) { zHd with k:=(k:Nat) } d).bind _=_;rw[e']
 rfl
theorem rF_k {i:Nat}{h h':Hd}{l l':List UInt8}(e:rF i h l=some (h',l')):h'.k=h.k:=by
 unfold rF at e;repeat' split at e
 all_goals first
  | (obtain⟨p,_,hp⟩:=Option.map_eq_some_iff.1 e;injection hp with h1 h2;rw[<- h1])
  | (injection e with e;injection e with h1 h2;rw[<- h1])
theorem jCA {k i:Nat}{h:Hd}{d l:List UInt8}(e:rFs k d i=some (h,l)):h.k=(k:Nat):=by
 unfold rFs at e;split at e
 ·injection e with e;injection e with h1 h2;rw[<- h1]
 ·split at e
  ·exact rF_k e
  ·obtain⟨p,h1,h2⟩:=Option.bind_eq_some_iff.1 e;rw[rF_k h2,rF_k h1]
theorem j2n {k:Nat}(hk:k<10)(d:List UInt8):rFld k d=(rFs k d 2).bind fun q=>if shC k=true then (rNum 1 q.2).map fun c=>((q.1,c.1),c.2) else some ((q.1,shP k),q.2):=by
 rw[jC9 hk];show _=((rF (sh0 k) { zHd with k:=(k:Nat) } d).bind fun p=>rF (sh1 k) p.1 p.2).bind _;cases rF (sh0 k) { zHd with k:=(k:Nat) } d with
 | none=>rfl
 | some p=>rfl
theorem jC8 {k:Nat}(hk:10<=k)(d:List UInt8):rFld k d=none:=by
 unfold rFld;repeat rw[if_neg (by omega)]
theorem Own.kp {w w':World}{B:Nat}{sl:Value}{t:Nd}{fp:List Nat}{S:Nat->Prop}(h:Own w B sl t fp)(g:Kp w w' S)(hS:∀b∈fp,¬S b):Own w' B sl t fp:=
 ⟨h.own.mono (fun b hb=>g.block b (h.new b hb).2 (hS b hb)),h.nodup,fun b hb=>⟨(h.new b hb).1,Nat.lt_of_lt_of_le (h.new b hb).2 g.size⟩⟩
theorem j2k {w w':World}{B k n:Nat}{e:TypeId}{v:Value}{xs:List Value}{S:Nat->Prop}(h:w.ownsRow B e k v n xs)(g:Kp w w' S)(hS:∀i,B<=i->¬S i):w'.ownsRow B e k v n xs:=by
 refine⟨h.1,?_⟩;rcases h.2 with h0|⟨b,c,cur,h1,h2,h3,h4⟩
 ·exact .inl h0
 ·exact .inr ⟨b,c,cur,h1,h2,(g.block b (Array.getElem?_eq_some_iff.1 h3).1 (hS b h2)).trans h3,h4⟩
theorem j53 {wr w4 w5:World}{B r g c:Nat}{v su:Value}{hd:Hd}{us:List Nd}{u:Nd}{fp fu:List Nat}{xs:List Value}{zs:List Value}
 (q:Own wr B v (.mk hd us) fp) (hx:wr.ownsRow B 64 15 v us.length xs) (hr:r<B) (hB:B<=wr.heap.size) (k4:Kp wr w4 (fun i=>i=r)) (hu:Own w4 wr.heap.size su u fu) (hz:zs.length=15)
 (ho:w5.ownsRow B 64 15 (.slice (some ⟨g,0,none⟩) (us.length+1) c) (us.length+1) (xs++zs)) (hgr:w4.grownBy w5 v.ownBlock) (ht:v.ownBlock=some g∨w4.heap.size<=g) :
 B<=g/\w5.there g (us.length*15) 15/\(∃fp',Own (w5.setCells g (us.length*15) (u.hd.cells su)) B (.slice (some ⟨g,0,none⟩) (us.length+1) c) (.mk hd (us++[u])) fp')/\Kp w4 w5 (fun i=>B<=i)/\Kp w4 (w5.setCells g (us.length*15) (u.hd.cells su)) (fun i=>B<=i):=by
 have hx4:w4.ownsRow B 64 15 v us.length xs:=j2k hx k4 (fun i hi e=>by omega);obtain⟨th,ho6⟩:=jBc (ys:=u.hd.cells su) ho hx.1 hz rfl;have hgB:B<=g:=by
  rcases ho.2 with ⟨e,_⟩|⟨g',c',cur,e,hbg,_⟩
  ·cases e
  ·injection e with e1 e2 e3;injection e1 with e1;injection e1 with e1;rw[e1];exact hbg
 have hrow:∀i,v.ownBlock=some i->B<=i:=fun i hi=>(hx.lt i hi).1
 have k5:Kp w4 w5 (fun i=>B<=i):=Kp.of_grown hgr (fun i e=>hrow i e);have k6:Kp w5 (w5.setCells g (us.length*15) (u.hd.cells su)) (fun i=>i=g):=Q1 (fun i=>i=g) rfl _ _ _;have hgr6:w4.grownBy (w5.setCells g (us.length*15) (u.hd.cells su)) v.ownBlock:=by
  refine⟨k6.os.trans hgr.os,k6.tape.trans hgr.tape,k6.output.trans hgr.output,Nat.le_trans hgr.size k6.size,fun i hi hne=>?_⟩;rw[k6.block i (Nat.lt_of_lt_of_le hi hgr.size) (fun e=>?_)]
  ·exact hgr.block i hi hne
  ·rcases ht with h|h
   ·exact hne (by rw[e,h])
   ·omega
 have q4:Own w4 B v (.mk hd us) fp:=q.kp k4 (fun b hb e=>by have:=(q.new b hb).1;omega);obtain⟨fp',o6⟩:=q4.grow hx4 (hu.le hB) (fun b hb hb'=>by have:=(hu.new b hb).1;have:=(q.new b hb').2;omega) ho6 hgr6 ht hd;exact⟨hgB,th,⟨fp',o6⟩,k5,k5.trans (k6.mono (fun i _ e=>by omega))⟩
inductive RnP (r:Nat) (w:World):Option (Nd×Nat×List UInt8)->Ending->World->Prop
 | ok {t:Nd} {f:Nat} {l:List UInt8} {sl:Value} {fp:List Nat} {w':World} (h:Rr w' r l (256-(f:Int))) (own:Own w' w.heap.size sl t fp) (kp:Kp w w' (fun i=>i=r)):RnP r w (some (t,f,l)) (.returned (t.hd.val sl)) w'
 | no {w':World} (kp:Kp w w' (fun i=>i=r)):RnP r w none (.panicked ef) w'
theorem RnP.fin_ok {r:Nat}{w:World}{o:Option (Nd×Nat×List UInt8)}{t:Nd}{f:Nat}{l:List UInt8}{sl:Value}{fp:List Nat}{w':World}(e:o=some (t,f,l))(h:Rr w' r l (256-(f:Int)))(own:Own w' w.heap.size sl t fp)(kp:Kp w w' (fun i=>i=r)):RnP r w o (.returned (t.hd.val sl)) w':=by rw[e];exact .ok h own kp
theorem RnP.fin_no {r:Nat}{w:World}{o:Option (Nd×Nat×List UInt8)}{w':World}(e:o=none)(kp:Kp w w' (fun i=>i=r)):RnP r w o (.panicked ef) w':=by rw[e];exact .no kp
end
end Go.Proofs.YtnceajanlnnfoaaGreatDoor
