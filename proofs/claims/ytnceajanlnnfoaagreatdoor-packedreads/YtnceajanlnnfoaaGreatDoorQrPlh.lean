/-Packed: Narrow of any number by any mode, in the writer's words; lists. -/
import Derived.Test.YtnceajanlnnfoaaGreatDoorQrSb
import Derived.Test.YtnceajanlnnfoaaGreatDoorQrPkl
set_option maxHeartbeats 8000000
set_option maxRecDepth 100000
namespace Go.Proofs.YtnceajanlnnfoaaGreatDoor
open Go.RowKit Go.Shelf
def sW (mode:Int) (b:Nat):Nat:=if isN b=true then 2143289344 else nwW mode b
def sI (mode:Int) (b:Nat):Bool:=!isN b&&nwI mode b
theorem jBq (b:Nat)(hb:b<18446744073709551616)(mode:Int)(hm:Y4 mode=true)(w:World)(hT:Tab w):
 Calls Tryz.prog 44 #[.float .f64 b,.int .i64 mode] w fun e w'=>(∃o u,e=.returned (.tuple #[.float .f32 (sW mode b),.agg #[.bool (sI mode b),.bool o,.bool u],.int .i64 0]))/\Kp w w' Nul:=by
 cases hn:isN b
 ·have e1:sW mode b=nwW mode b:=if_neg (by rw[hn];exact Bool.false_ne_true);have e2:sI mode b=nwI mode b:=by unfold sI;rw[hn,Bool.not_false,Bool.true_and]
  rw[e1,e2];exact(jAw b hb mode hm hn w hT).mono fun e w' h=>⟨⟨_,_,h.1⟩,Kp.of_gr h.2⟩
 ·have e1:sW mode b=2143289344:=if_pos hn;have e2:sI mode b=false:=by unfold sI;rw[hn,Bool.not_true,Bool.false_and]
  rw[e1,e2];exact(jAz b hb mode hm hn w).mono fun e w' h=>⟨⟨_,_,h.1⟩,Kp.of_gr h.2⟩
def FlAt (w:World) (v:Value) (l:List Nat):Prop:=∃p c,v=.slice p l.length c/\∀i x,l[i]? = some x->x<18446744073709551616/\∃b o,p=some ⟨b,o,none⟩/\b<w.heap.size/\w.cell? ⟨b,o+i,none⟩=some (.float .f64 x)
def snB (mode:Int) (l:List Nat):List UInt8:=l.flatMap fun b=>le 4 (sW mode b)
def snI (mode:Int) (l:List Nat):Nat:=(l.filter (sI mode)).length
theorem jEp (b:Nat)(w:World)(h:Blk w b [.pointer none,.slice none 0 0] 74):
 Calls Tryz.prog 34 #[.pointer (some ⟨b,0,none⟩)] w fun e w'=>e=.returned (.string ⟨#[]⟩)/\Kp w w' Nul:=by
 have c1:w.drew.cell? ⟨b,1,none⟩=some (.slice none 0 0):=h.cell rfl;have hSD:∀w,(Builtin.unsafeSliceData_ #[70] 141 #[.slice none 0 0]).run Tryz.prog w=.ok (.pointer none) w:=fun w=>Lib.run_unsafeSliceData_nil _ _ _ _ _
 have hUS:∀w,(Builtin.unsafeString_ #[141,3] 9 #[.pointer none,.int .i64 0]).run Tryz.prog w=.ok (.string ⟨#[]⟩) w:=fun w=>Lib.run_unsafeString_none _ _ _ _ _
 have HH:Hid (Kp w w.drew Nul):=(Kp.refl w Nul).drew;clear h;have mixed:Tryz.prog.follows Departure.mixedOrders=true:=by kernel_rfl
 go_enter Tryz.func34,Tryz.ntmps34;go_wp2
 go_region_o
 all_goals (go_wp2;go_ret;exact⟨rfl,HH.out⟩)
theorem jDm (mode:Int)(b:Nat)(hn:isN b=false):∃r,r<=2139095040/\sW mode b=Ieee.single.word (sgb b) r:=by
 have e1:sW mode b=nwW mode b:=if_neg (by rw[hn];exact Bool.false_ne_true);rw[e1];by_cases h1:mag b=9218868437227405312
 ·exact⟨2139095040,Nat.le_refl _,if_pos h1⟩
 ·by_cases h2:mag b=0
  ·exact⟨0,Nat.zero_le _,by unfold nwW;rw[if_neg h1,if_pos h2]⟩
  ·exact⟨_,Rn.cap32_le mode (sgb b) (Rn.rung32 mode (sgb b) (spM b) (spE b)),by unfold nwW;rw[if_neg h1,if_neg h2];rfl⟩
theorem jDl (mode:Int)(b:Nat):sW mode b<4294967296:=by
 cases hn:isN b with
 | true=>
  have e1:sW mode b=2143289344:=if_pos hn;rw[e1];decide
 | false=>
  obtain⟨r,h1,h2⟩:=jDm mode b hn;rw[h2];exact(j6f _ r h1).1
def sgE (mode:Int) (n:Nat):Nat:=if Y4 mode=true then (if 65536<n then 2 else 0) else 1
def sgS (mode:Int) (l:List Nat):List UInt8:=if sgE mode l.length=0 then snB mode l else []
def sgN (mode:Int) (l:List Nat):Nat:=if sgE mode l.length=0 then snI mode l else 0
theorem j6F (mode:Int)(l:List Nat):(snB mode l).length=4*l.length:=by
 unfold snB;induction l with
 | nil=>rfl
 | cons a l ih=>rw[List.flatMap_cons,List.length_append,D8,ih,List.length_cons];omega
theorem jE3 (mode:Int)(l:List Nat)(i x:Nat)(h:l[i]? = some x):snB mode (l.take (i+1))=snB mode (l.take i)++le 4 (sW mode x):=by
 unfold snB;rw[List.take_add_one,h,List.flatMap_append];simp
theorem jE5 (mode:Int)(l:List Nat)(i x:Nat)(h:l[i]? = some x):snI mode (l.take (i+1))=snI mode (l.take i)+if sI mode x=true then 1 else 0:=by
 unfold snI;rw[List.take_add_one,h,List.filter_append,List.length_append]
 congr 1
 simp only[Option.toList_some,List.filter_cons,List.filter_nil];split <;> rfl
theorem jE4 (mode:Int)(l:List Nat):snI mode l<=l.length:=by unfold snI;exact List.length_filter_le _ _
theorem Kp.cellN {w w':World}{S:Nat->Prop}(k:Kp w w' S){b o:Nat}{v:Value}(h:w.cell? ⟨b,o,none⟩=some v)(hs:¬S b):w'.cell? ⟨b,o,none⟩=some v:=by
 have:=k.block b (G7 h) hs;rw[<- h];unfold World.cell?;simp only[this]
theorem Wr.fresh {b:Nat}{w0 w w':World}{g:Option Nat}(h:Wr b w w' none g)(hk:Kp w0 w Nul)(hb:w0.heap.size<=b):Kp w0 w' Nul:=hk.trans' h.kp (fun i hi e=>by rcases e with e|e;omega;cases e)
theorem jE1 (v:Value)(l:List Nat)(mode:Int)(w:World)(hv:FlAt w v l)(hT:Tab w):
 Calls Tryz.prog 14 #[v,.int .i64 mode] w fun e w'=>e=.returned (.tuple #[.string ⟨(sgS mode l).toArray⟩,.int .i64 (sgN mode l),.int .i64 (sgE mode l.length)])/\Kp w w' Nul:=by
 obtain⟨p,c,rfl,hc⟩:=hv;cases hm:Y4 mode with
 | false=>
  have e0:sgE mode l.length=1:=by unfold sgE;rw[if_neg (by rw[hm];exact Bool.false_ne_true)]
  have e1:sgS mode l=[]:=by unfold sgS;rw[if_neg (by rw[e0];decide)]
  have e2:sgN mode l=0:=by unfold sgN;rw[if_neg (by rw[e0];decide)]
  rw[e0,e1,e2];have hb:¬(1<=mode/\mode<=6):=of_decide_eq_false hm;clear hm e0 e1 e2 hc hT;go_enter Tryz.func14,Tryz.ntmps14;by_cases h1:mode<1
  ·go_wp2_with fail;refine bodyPost_ret (v:=.tuple #[.string ⟨#[]⟩,.int .i64 0,.int .i64 1]) (by simp[results,Tryz.results14,go_sem]) rfl ?_;exact⟨rfl,Kp.refl _ _⟩
  ·have h2:6<mode:=(by omega);go_wp2_with fail;refine bodyPost_ret (v:=.tuple #[.string ⟨#[]⟩,.int .i64 0,.int .i64 1]) (by simp[results,Tryz.results14,go_sem]) rfl ?_;exact⟨rfl,Kp.refl _ _⟩
 | true=>
 have hb:1<=mode/\mode<=6:=of_decide_eq_true hm;have hb1:¬mode<1:=by omega
 have hb2:¬6<mode:=by omega
 by_cases hl:65536<l.length
 ·have e0:sgE mode l.length=2:=by unfold sgE;rw[if_pos hm,if_pos hl]
  have e1:sgS mode l=[]:=by unfold sgS;rw[if_neg (by rw[e0];decide)]
  have e2:sgN mode l=0:=by unfold sgN;rw[if_neg (by rw[e0];decide)]
  rw[e0,e1,e2];have hl':(65536:Int)<(l.length:Int):=by omega
  clear hm e0 e1 e2 hc hT hl hb;go_enter Tryz.func14,Tryz.ntmps14;go_wp2_with fail;refine bodyPost_ret (v:=.tuple #[.string ⟨#[]⟩,.int .i64 0,.int .i64 2]) (by simp[results,Tryz.results14,go_sem]) rfl ?_;exact⟨rfl,Kp.refl _ _⟩
 have e0:sgE mode l.length=0:=by unfold sgE;rw[if_pos hm,if_neg hl]
 have e1:sgS mode l=snB mode l:=by unfold sgS;rw[if_pos e0]
 have e2:sgN mode l=snI mode l:=by unfold sgN;rw[if_pos e0]
 rw[e0,e1,e2];have hl':¬(65536:Int)<(l.length:Int):=by omega
 have HL:Hid (l.length<=65536):=by show _<=_;omega
 have HC:Hid (∀i x,l[i]? = some x->x<18446744073709551616/\∃b o,p=some ⟨b,o,none⟩/\b<w.heap.size/\w.cell? ⟨b,o+i,none⟩=some (.float .f64 x)):=hc;have HNR:Hid (∀x W,x<18446744073709551616->Kp w W Nul->Calls Tryz.prog 44 #[.float .f64 x,.int .i64 mode] W fun e w'=>(∃o u,e=.returned (.tuple #[.float .f32 (sW mode x),.agg #[.bool (sI mode x),.bool o,.bool u],.int .i64 0]))/\Kp W w' Nul):=fun x W hx k=>jBq x hx mode hm W (fun j hj=>k.cellN (hT j hj) (fun x=>x))
 obtain⟨W1,hW1⟩:∃W1,w.alloc (.cells #[.pointer none,.slice none 0 0] 74)=W1:=⟨_,rfl⟩;have HW1:Hid (w.alloc (.cells #[.pointer none,.slice none 0 0] 74)=W1):=hW1;have HB1:Hid (Blk W1 w.heap.size [.pointer none,.slice none 0 0] 74):=by show Blk _ _ _ _;rw[<- hW1];exact Blk.new w _ _
 have HK1:Hid (Kp w W1 Nul):=by show Kp _ _ _;rw[<- hW1];exact(Kp.refl _ _).alloc _
 obtain⟨n,hn⟩:∃n,l.length=n:=⟨_,rfl⟩;rw[hn] at hl' HL ⊢;have HN:Hid (l.length=n):=hn;clear hm e0 e1 e2 hc hT hl hb hW1 hn;go_enter Tryz.func14,Tryz.ntmps14;go_wp2_with (first|(rw[HW1.out])|fail);go_loopw[8,27] (fun s8 s27 wr=>∃i:Nat,i<=n/\s27=.int .i64 i/\s8=.int .i64 (snI mode (l.take i):Nat)/\∃g,Bw wr w.heap.size g (snB mode (l.take i))/\Wr w.heap.size W1 wr none g/\(i=0->wr=W1)) (fun _ s27 _=>((n:Int)-RowKit.intOf s27).toNat)
 case atStart=>exact⟨0,Nat.zero_le _,by simp,by rw[List.take_zero];rfl,none,by rw[List.take_zero];exact Bw.fresh HB1.out,Wr.refl _ _ _,fun _=>rfl⟩
 case round=>
  obtain⟨i,hi,rfl,rfl,g,hb,hw,hz⟩:=hrel;have HB:Hid (Bw wr w.heap.size g (snB mode (l.take i))):=hb;have HWR:Hid (Wr w.heap.size W1 wr none g):=hw;have HZ:Hid (i=0->wr=W1):=hz;have HKr:Hid (Kp w wr Nul):=Wr.fresh hw HK1.out (Nat.le_refl _);have HSI:Hid (snI mode (l.take i)<=i):=Nat.le_trans (jE4 _ _) (List.length_take_le _ _);have HSB:Hid ((snB mode (l.take i)).length<=4*i):=by show _<=_;rw[j6F];have:=List.length_take_le i l;omega
  clear hb hw hz;by_cases hlt:i<n
  ·have hlt':(i:Int)<(n:Int):=(by omega);obtain⟨x,hx⟩:∃x,l[i]? = some x:=⟨_,List.getElem?_eq_getElem (by rw[HN.out];exact hlt)⟩;obtain⟨hx1,b,o,rfl,hbl,hcl⟩:=HC.out i x hx;have hcl':wr.cell? ⟨b,o+i,none⟩=some (.float .f64 x):=HKr.out.cellN hcl (fun x=>x);have HX1:Hid (x<18446744073709551616):=hx1;have HTB:Hid (snB mode (l.take (i+1))=snB mode (l.take i)++le 4 (sW mode x)):=jE3 mode l i x hx;have HTI:Hid (snI mode (l.take (i+1))=snI mode (l.take i)+if sI mode x=true then 1 else 0):=jE5 mode l i x hx;have HLT:Hid (i<n):=hlt;have hsw:sW mode x<4294967296:=jDl mode x;have hcv:=j0o (sW mode x) hsw;have HSW:Hid (sW mode x<4294967296):=hsw;generalize hq0:snI mode (l.take i)=q at *;clear hx hx1 hcl hlt hsw hq0 hbl;go_wp2_with fail;refine(HNR.out x wr HX1.out HKr.out).mono ?_;rintro e w2 ⟨⟨o',u',rfl⟩,k2⟩;generalize hS:sI mode x=sb at *;generalize hQ:sW mode x=sx at *;clear hS hQ;have HB2:Hid (Bw w2 w.heap.size g (snB mode (l.take i))):=HB.out.kp k2
   have HW2:Hid (Wr w.heap.size W1 w2 none g):=HWR.out.trans (Wr.nul k2);clear k2 HB HWR hcl' HKr;obtain⟨w3,hw3⟩:∃w3,w2.alloc (.cells #[.bool sb,.bool o',.bool u'] 103)=w3:=⟨_,rfl⟩;have HW3:Hid (w2.alloc (.cells #[.bool sb,.bool o',.bool u'] 103)=w3):=hw3;have k3:Kp w2 w3 Nul:=(by rw[<- hw3];exact(Kp.refl _ _).alloc _);have HFL:Hid (Blk w3 w2.heap.size [.bool sb,.bool o',.bool u'] 103):=(by show Blk _ _ _ _;rw[<- hw3];exact Blk.new w2 _ _);have HB3:Hid (Bw w3 w.heap.size g (snB mode (l.take i))):=HB2.out.kp k3;have HW3':Hid (Wr w.heap.size W1 w3 none g):=HW2.out.trans (Wr.nul k3);have HNE:Hid (w2.heap.size≠w.heap.size/\∀j,g=some j->w2.heap.size≠j):=⟨by have:=HB2.out.lt;omega,fun j hj=>by have:=HB2.out.row_lt j hj;omega⟩;clear hw3 k3 HB2 HW2;go_wp2_with fail;rw[HW3.out];have HNUM:Hid (Calls Tryz.prog 28 #[.pointer (some ⟨w.heap.size,0,none⟩),.int .u64 sx,.int .i64 4] w3 fun e w'=>WrR w.heap.size (snB mode (l.take i)++le 4 sx) w3 g e w'):=V7 _ g _ sx 4 w3 (by have:=HSW.out;omega) HB3.out (by have:=HSB.out;have:=HL.out;have:=HLT.out;omega)
   refine HNUM.out.mono ?_;rintro e w4 ⟨rfl,g4,hb4,hw4⟩;have hfl:w4.cell? ⟨w2.heap.size,0,none⟩=some (.bool sb):=(HFL.out.kp hw4.kp (fun e=>by rcases e with e|e;exact HNE.out.1 e;exact HNE.out.2 _ e rfl)).cell rfl;have HREL:Hid (Bw w4 w.heap.size g4 (snB mode (l.take (i+1)))/\Wr w.heap.size W1 w4 none g4):=⟨by rw[HTB.out];exact hb4,HW3'.out.trans hw4⟩;have HLI:Hid (i<n/\q<=i/\n<=65536):=⟨HLT.out,HSI.out,HL.out⟩;clear hb4 hw4 HNUM HB3 HW3' HFL HNE HW3 hcv HSW;cases sb with
   | false=>
    have HTI':Hid (snI mode (l.take (i+1))=q):=(by show _=_;rw[HTI.out,if_neg Bool.false_ne_true,Nat.add_zero]);go_wp2_with fail;go_roundw
    case rel=>exact⟨i+1,by have:=HLI.out;omega,by go_num,by rw[HTI'.out],g4,HREL.out.1,HREL.out.2,fun e=>by omega⟩
    case measure=>simp only[RowKit.intOf];have:=HLI.out;omega
   | true=>
    have HTI':Hid (snI mode (l.take (i+1))=q+1):=(by show _=_;rw[HTI.out,if_pos rfl]);have hqb:(q:Int)+1<=9223372036854775807:=(by have:=HLI.out;omega);go_wp2_with fail;go_roundw
    case rel=>exact⟨i+1,by have:=HLI.out;omega,by go_num,by rw[HTI'.out];go_num,g4,HREL.out.1,HREL.out.2,fun e=>by omega⟩
    case measure=>simp only[RowKit.intOf];have:=HLI.out;omega
  ·have hie:i=n:=(by omega);subst hie;have HT:Hid (l.take i=l):=(by show _=_;rw[<- HN.out,List.take_length]);rw[HT.out] at HB HSI HSB ⊢;by_cases h0:i=0
   ·have hwz:=HZ.out h0;have hl0:l=[]:=List.length_eq_zero_iff.1 (by rw[HN.out];exact h0);subst hl0;have HSTR:Hid (Calls Tryz.prog 34 #[.pointer (some ⟨w.heap.size,0,none⟩)] wr fun e w'=>e=.returned (.string ⟨#[]⟩)/\Kp wr w' Nul):=jEp _ wr (by rw[hwz];exact HB1.out);clear hwz HZ;go_wp2_with fail;refine HSTR.out.mono ?_;rintro e w5 ⟨rfl,k5⟩;have HK5:Hid (Kp w w5 Nul):=HKr.out.trans k5;clear k5;go_wp2_with fail;refine bodyPost_ret (v:=.tuple #[.string ⟨#[]⟩,.int .i64 0,.int .i64 0]) (by simp[results,Tryz.results14,go_sem];rfl) rfl ?_;exact⟨rfl,HK5.out⟩
   ·have hne:snB mode l≠[]:=fun e=>by
     have:=j6F mode l;rw[e,HN.out] at this;simp at this;omega
    have HSTR:Hid (Calls Tryz.prog 34 #[.pointer (some ⟨w.heap.size,0,none⟩)] wr fun e w'=>e=.returned (.string ⟨(snB mode l).toArray⟩)/\Bw w' w.heap.size g (snB mode l)/\Wr w.heap.size wr w' g g):=j39 _ g _ wr hne HB.out;clear hne HZ;obtain⟨q,hq⟩:∃q,snI mode l=q:=⟨_,rfl⟩;have HQ:Hid (snI mode l=q):=hq;rw[hq];clear hq;go_wp2_with fail;refine HSTR.out.mono ?_;rintro e w5 ⟨rfl,b5,k5⟩;have HK5:Hid (Kp w w5 Nul):=Wr.fresh (HWR.out.trans k5) HK1.out (Nat.le_refl _);clear k5 b5;go_wp2_with fail;refine bodyPost_ret (v:=.tuple #[.string ⟨(snB mode l).toArray⟩,.int .i64 q,.int .i64 0]) (by simp[results,Tryz.results14,go_sem]) rfl ?_;exact⟨by rw[HQ.out];rfl,HK5.out⟩
end Go.Proofs.YtnceajanlnnfoaaGreatDoor
