/-Packed, the document's Pack (quadrilleref24). -/
import Derived.Test.YtnceajanlnnfoaaGreatDoorQrPpa
import Derived.Test.YtnceajanlnnfoaaGreatDoorQrPog
import Derived.Test.YtnceajanlnnfoaaGreatDoorQrPqd
import Derived.Lib.SlBytesConst
set_option maxRecDepth 20000
set_option maxHeartbeats 32000000
namespace Go.Proofs.YtnceajanlnnfoaaGreatDoor
section
open Go.RowKit Go.Maps Go.Sort Go.Lib Go.Shelf
theorem By.other {z:World}{g:Option Nat}{v:Value}{xs:List Value}{N:Nat}{cs:List Value}{T:TypeId}(h:By 5 z g v xs)(hb:Blk z N cs T)(hT:T ≠ 5):¬g=Option.some N:=fun e=>by
 subst e;cases h with
 | some hn hh hf hc ht h1=>
  unfold Blk at hb;rw[hb] at hh;injection hh with hh;injection hh with _ hh _;exact hT hh
theorem j3F {w W:World}{o:Oper}{a:Act}{K:Act->World->Prop}{Q:Exit->Act->World->Prop}(s x:Operand)(tx:TypeId)(ho:o.op=Op.call { callee:=Callee.builtin Builtin.append,args:=#[s,x],argTypes:=#[70,tx] })
 {v v2:Value} {l k:List UInt8} (hs:a.eval s=v) (hx:a.eval x=v2) (hb:ByF 5 W w v (Lib.byteCells l)) (hsrc:Src Tryz.prog 1 tx v2 (Lib.byteCells k).length (Lib.byteCells k) w) (h47:l.length+k.length<=140737488355328)
 (h:∀v' w',ByF 5 W w' v' (Lib.byteCells (l++k))->(∀N cs T,T ≠ 5->Blk w N cs T->Blk w' N cs T)->K (a.put o.dst v') w'):o.wp Tryz.prog a w K Q:=by
 obtain⟨i8,hi8,hz8,hsz8,hby8⟩:=U6;obtain⟨g,hb1,hb2,hb3⟩:=hb;obtain⟨v',g',w',hr,h1,h2⟩:=j1b 70 tx o.type 5 i8 (.int .u8 0) 1 Tryz.underlying70 hi8 hz8 hsz8 hby8 rfl hb1 hsrc (by rw[Lib.byteCells_length,Lib.byteCells_length];omega) (by rw[Lib.byteCells_length,Lib.byteCells_length];omega);unfold Oper.wp execOp;simp only[ho,resolve,invoke,builtin,Sem.run_bind,Sem.run_pure,Result.andThen_ok,List.map_toArray,List.map_cons,List.map_nil,hs,hx,hr];refine h v' w' ?_ (fun N cs T hT hB=>hB.kp h2.kp (hb1.other hB hT));rw[j0z];exact ByF.ap hb3 hb2 h1 h2
theorem j3D {w W:World}{ops:Array Oper}{rest:List Oper}{o:Oper}{a:Act}{Q:Exit->Act->World->Prop}(hgd:o.guard=none)(s x:Operand)(tx:TypeId)(ho:o.op=Op.call { callee:=Callee.builtin Builtin.append,args:=#[s,x],argTypes:=#[70,tx] })
 {v v2:Value} {l k:List UInt8} (hs:a.eval s=v) (hx:a.eval x=v2) (hb:ByF 5 W w v (Lib.byteCells l)) (hsrc:Src Tryz.prog 1 tx v2 (Lib.byteCells k).length (Lib.byteCells k) w) (h47:l.length+k.length<=140737488355328)
 (h:∀v' w',ByF 5 W w' v' (Lib.byteCells (l++k))->(∀N cs T,T ≠ 5->Blk w N cs T->Blk w' N cs T)->wpList Tryz.prog ops Q rest (a.put o.dst v') w'):wpList Tryz.prog ops Q (o::rest) a w:=
 wpList_plain hgd fun _ hK=>j3F s x tx ho hs hx hb hsrc h47 fun v' w' h1 h2=>hK _ _ (h v' w' h1 h2)
theorem j4w (g:Nat)(w:World):(binOp .eql 24 (.pointer (some ⟨g,0,none⟩)) (.pointer none)).run Tryz.prog w=.ok (.bool false) w:=by
 simp[go_sem]
theorem j90:∀(K:List Cc),(∀x∈K,KnC x.2)->(csB K).length<=K.length*18000000:=by
 intro K;unfold csB;induction K with
 | nil=>intro _;simp
 | cons x K ih=>
  intro h;rw[List.flatMap_cons,List.length_append,List.length_cons,Nat.add_mul];have h1:=j1w (c:=x.1.1.toNat) (r:=x.1.2.toNat) (h x (by simp));have h2:=ih (fun y hy=>h y (by simp[hy]));unfold cB;unfold cB at h2;omega
theorem j8R {w:World}{b:Nat}{cs pre mid post:List Value}{T:TypeId}(h:Blk w b cs T)(e:cs=pre++(mid++post)):w.rangeAt b pre.length mid:=fun j v hj=>by
 have:=(List.getElem?_eq_some_iff.1 hj).1;refine h.cell ?_;rw[e,List.getElem?_append_right (by omega),Nat.add_sub_cancel_left,List.getElem?_append_left this];exact hj
theorem jDG (Bd r:Nat)(v:Value)(ys:List (Cc×Value))(Kd:List Cc)(w:World)(hd:DG w Bd r v ys)(hK:ys.map (·.1)=Kd)(hn4:Kd.length<=4096)(hkn:∀x∈Kd,KnC x.2/\vC x.1.1 x.1.2=true):
 Calls Tryz.prog 8 #[.pointer (some ⟨r,0,none⟩)] w fun e w'=>e=.returned (.tuple #[.string ⟨(pkS Kd).toArray⟩,.int .i64 (pkE Kd)])/\Kp w w' Nul:=by
 obtain⟨pp,cp,rfl,hpp⟩:=hd.pts.slice;obtain⟨n,hn⟩:∃n,ys.length=n:=⟨_,rfl⟩;have hKn:Kd.length=n:=by rw[<- hK,List.length_map,hn]
 have HDG:Hid (∀wq,Kp w wq Nul->DG wq Bd r (.slice pp ys.length cp) ys):=fun wq k=>hd.kp k
 have HR0:Hid (∀wq,Kp w wq Nul->wq.cell? ⟨r,0,none⟩=some (.slice pp n cp)):=fun wq k=>by
  have h:=(HDG.out wq k).box.cell (i:=0) rfl;rw[hn] at h;exact h
 have HN:Hid (ys.length=n/\Kd.length=n/\n<=4096/\ys.map (·.1)=Kd):=⟨hn,hKn,by omega,hK⟩;have HKN:Hid (∀x∈Kd,KnC x.2/\vC x.1.1 x.1.2=true):=hkn;have HCL:Hid ((csB Kd).length<=73728000000):=by
  have:=j90 Kd (fun x hx=>(hkn x hx).1);show _<=_;omega
 have HNu:Hid (∀w,Calls Tryz.prog 35 #[.int .u64 (n:Nat),.int .i64 2] w fun e w'=>∃v,e=.returned v/\ByF 5 w w' v (Lib.byteCells (le 2 n))):=fun w=>V3 n 2 (by omega) (by decide) w
 have hcn:=Q6 n (by omega);have HNu4:Hid (∀w,Calls Tryz.prog 35 #[.int .u64 (crcS (D6 Kd):Nat),.int .i64 4] w fun e w'=>∃v,e=.returned v/\ByF 5 w w' v (Lib.byteCells (le 4 (crcS (D6 Kd))))):=fun w=>V3 (crcS (D6 Kd)) 4 (Nat.lt_of_lt_of_le (U4 _) (by decide)) (by decide) w
 have HV4:Hid (∀w,(convert 86 80 (.int .u32 (crcS (D6 Kd):Nat))).run Tryz.prog w=.ok (.int .u64 (crcS (D6 Kd):Nat)) w):=j0o _ (U4 _);obtain⟨W1,hW1⟩:∃W1,w.alloc (.cells #[.int .u8 81,.int .u8 68,.int .u8 82,.int .u8 49] 5 (4,5))=W1:=⟨_,rfl⟩;have hcb:(convert 70 70 (.slice (some ⟨w.heap.size,0,none⟩) 4 4)).run Tryz.prog (w.alloc (.cells #[.int .u8 81,.int .u8 68,.int .u8 82,.int .u8 49] 5))=.ok (.slice (some ⟨w.heap.size,0,none⟩) 4 4) W1:=by
  rw[<- hW1];exact Lib.run_convert_bytes_const w 70 5 #[.int .u8 81,.int .u8 68,.int .u8 82,.int .u8 49] 4 4 Tryz.underlying70 Tryz.underlying5
 have HO1:Hid (ByF 5 w W1 (.slice (some ⟨w.heap.size,0,none⟩) 4 4) (Lib.byteCells D5)):=by
  show ByF _ _ _ _ _;rw[<- hW1];exact⟨some w.heap.size,By.some rfl (heap_alloc_new _ _) (fun i hi hh=>by have h1:i<4:=hi;have h2:4<=i:=hh.1;omega) rfl rfl (Lib.byteCells_one D5),fun b hb=>(by injection hb with hb;omega),(Kp.refl w Nul).alloc _⟩
 have hnp:=fun wq=>j4w r wq
 have r1:W1.cell? ⟨r,0,none⟩=some (.slice pp n cp):=HR0.out W1 HO1.out.is24;clear hd hK hn4 hkn hpp hn hKn hW1;go_enter Tryz.func8,Tryz.ntmps8;go_wp2_with fail;refine(HNu.out _).mono ?_;rintro e w2 ⟨v2,rfl,h2⟩;have B2:Hid (ByF 5 W1 w2 v2 (Lib.byteCells (le 2 n))):=h2;have O2:Hid (ByF 5 w w2 (.slice (some ⟨w.heap.size,0,none⟩) 4 4) (Lib.byteCells D5)):=HO1.out.kp h2.is24;clear h2 r1 hcn hnp HNu HO1 hcb;go_wp2_with (at_builtin;refine L0 rfl (.tmp 10) (.tmp 17) 70 rfl rfl rfl O2.out B2.out.src (by rw[D8];decide) ?_);intro v3 w3 h3;have O3:Hid (ByF 5 w w3 v3 (Lib.byteCells (D5++le 2 n))):=h3;clear h3 B2 O2;have r3:w3.cell? ⟨r,0,none⟩=some (.slice pp n cp):=HR0.out w3 O3.out.is24;go_wp2_with fail;go_loopw[4,5] (fun s4 s5 wr=>∃i:Nat,i<=n/\s5=.int .i64 i/\ByF 5 w wr s4 (Lib.byteCells (D5++le 2 n++csB (Kd.take i)))) (fun _ s5 _=>((n:Int)-RowKit.intOf s5).toNat)
 case atStart=>exact⟨0,Nat.zero_le _,by simp,by rw[List.take_zero];unfold csB;rw[List.flatMap_nil,List.append_nil];exact O3.out⟩
 case round=>
  clear O3 r3;obtain⟨i,hi,rfl,hby⟩:=hrel;have HBY:Hid (ByF 5 w wr u4 (Lib.byteCells (D5++le 2 n++csB (Kd.take i)))):=hby
  have rr:wr.cell? ⟨r,0,none⟩=some (.slice pp n cp):=HR0.out wr hby.is24;clear hby
  by_cases hlt:i<n
  ·have hlt':(i:Int)<(n:Int):=(by omega);have hi0:(0:Int)<=(i:Int):=(by omega);have hiy:i<ys.length:=(by rw[HN.out.1];exact hlt);obtain⟨⟨⟨⟨c,s⟩,ct⟩,sl⟩,hys⟩:∃y,ys[i]=y:=⟨_,rfl⟩;have hget:ys[i]? = some (((c,s),ct),sl):=(by rw[List.getElem?_eq_getElem hiy,hys]);have hgk:Kd[i]? = some ((c,s),ct):=(by rw[<- HN.out.2.2.2,List.getElem?_map,hget];rfl);obtain⟨hkc,hvc⟩:=HKN.out _ (List.mem_of_getElem? hgk);replace hkc:KnC ct:=hkc;replace hvc:vC c s=true:=hvc;have hk0:0<=ct.k:=by cases hkc with
    | plain h _=>rw[h];decide
    | form h _ _=>rw[h];decide
   have hdr:=HDG.out wr HBY.out.is24;obtain⟨p',c',e1,hp'⟩:=hdr.pts.slice;injection e1 with e1 e2 e3;obtain⟨b,e5,_,hrow⟩:=hp' (by omega);rw[e5] at e1;subst e1;clear e2 e3 e5;have hib:(i:Int)+1<=9223372036854775807:=(by have:=HN.out.2.2.1;omega);have HRow:Hid (wr.rangeAt b (i*23) (j6 ((c,s),ct) sl)):=hrow i _ hget;have htr:=hdr.pts.tree _ (List.mem_of_getElem? hget);have HTr:Hid (∀wq,Kp w wq Nul->NdIn wq (fun _=>True) sl ct.t):=(fun wq k=>(HDG.out wq k).pts.tree _ (List.mem_of_getElem? hget));have O1:Hid (sl.oneCell'=true):=htr.one;have hvb:=(Z3 c s).1 hvc;have HVc:Hid (∀w,(convert 3 80 (.int .i64 c)).run Tryz.prog w=.ok (.int .u64 c) w):=fun w=>by
    have:=Q6 c.toNat (by omega) w;rw[Int.toNat_of_nonneg (by omega)] at this;exact this
   have HVs:Hid (∀w,(convert 3 80 (.int .i64 s)).run Tryz.prog w=.ok (.int .u64 s) w):=fun w=>by
    have:=Q6 s.toNat (by omega) w;rw[Int.toNat_of_nonneg (by omega)] at this;exact this
   have HNc:Hid (∀w,Calls Tryz.prog 35 #[.int .u64 c,.int .i64 2] w fun e w'=>∃v,e=.returned v/\ByF 5 w w' v (Lib.byteCells (le 2 c.toNat))):=fun w=>by
    have:=V3 c.toNat 2 (by omega) (by decide) w;rw[Int.toNat_of_nonneg (by omega)] at this;exact this
   have HNs:Hid (∀w,Calls Tryz.prog 35 #[.int .u64 s,.int .i64 2] w fun e w'=>∃v,e=.returned v/\ByF 5 w w' v (Lib.byteCells (le 2 s.toNat))):=fun w=>by
    have:=V3 s.toNat 2 (by omega) (by decide) w;rw[Int.toNat_of_nonneg (by omega)] at this;exact this
   have HCt:Hid (KnC ct):=hkc;obtain⟨kb,hkb⟩:∃kb,UInt8.ofNat ct.k.toNat=kb:=⟨_,rfl⟩;have hck:=V5 ct.k hk0;rw[hkb] at hck;obtain⟨bx,hbx⟩:∃bx,(if ct.k=2 then ndB ct.t else vlB ct.v)=bx:=⟨_,rfl⟩;obtain⟨pre,hpre⟩:∃pre,D5++le 2 n++csB (Kd.take i)=pre:=⟨_,rfl⟩;have hki:i<Kd.length:=(by rw[HN.out.2.1];exact hlt);have hkd:Kd[i]=((c,s),ct):=(by have:=hgk;rw[List.getElem?_eq_getElem hki] at this;injection this);have HTK:Hid (D5++le 2 n++csB (Kd.take (i+1))=pre++cB ((c,s),ct)):=(by show _=_;rw[j3s Kd i hki,hkd,<- List.append_assoc,hpre]);have HCB:Hid (pre++cB ((c,s),ct)=pre++le 2 c.toNat++le 2 s.toNat++[kb]++bx):=by
    show pre++(le 2 c.toNat++le 2 s.toNat++(UInt8.ofNat ct.k.toNat::(if ct.k=2 then ndB ct.t else vlB ct.v)))=_;rw[hkb,hbx];simp
   have hlp:pre.length<=73728000006:=by
    rw[<- hpre,List.length_append,List.length_append,D8];have h1:=j3r Kd i;have h2:=HCL.out;have h3:D5.length=4:=rfl;omega
   have hlx:bx.length<=18000000:=by
    have h1:=j1w (c:=c.toNat) (r:=s.toNat) hkc;have h2:(L2 c.toNat s.toNat ct).length=4+(1+bx.length):=by
     show (le 2 c.toNat++le 2 s.toNat++(UInt8.ofNat ct.k.toNat::(if ct.k=2 then ndB ct.t else vlB ct.v))).length=_;rw[hbx,List.length_append,List.length_append,D8,D8,List.length_cons];omega
    omega
   have HL1:Hid (pre.length+(le 2 c.toNat).length<=140737488355328):=(by show _<=_;rw[D8];omega);have HL2:Hid ((pre++le 2 c.toNat).length+(le 2 s.toNat).length<=140737488355328):=(by show _<=_;rw[List.length_append,D8,D8];omega);have HL3:Hid ((pre++le 2 c.toNat++le 2 s.toNat).length+[kb].length<=140737488355328):=(by show _<=_;rw[List.length_append,List.length_append,D8,D8,List.length_singleton];omega);have HL4:Hid ((pre++le 2 c.toNat++le 2 s.toNat++[kb]).length+bx.length<=140737488355328):=(by show _<=_;rw[List.length_append,List.length_append,List.length_append,D8,D8,List.length_singleton];omega);have HBX:Hid ((if ct.k=2 then ndB ct.t else vlB ct.v)=bx):=hbx;obtain⟨pa,hpa⟩:∃pa,pre++le 2 c.toNat=pa:=⟨_,rfl⟩;obtain⟨pb,hpb⟩:∃pb,pa++le 2 s.toNat=pb:=⟨_,rfl⟩;obtain⟨pc,hpc⟩:∃pc,pb++[kb]=pc:=⟨_,rfl⟩;rw[hpa] at HL2 HL3 HL4 HCB;rw[hpb] at HL3 HL4 HCB;rw[hpc] at HL4 HCB;have HPA:Hid (pre++le 2 c.toNat=pa):=hpa
   have HPB:Hid (pa++le 2 s.toNat=pb):=hpb;have HPC:Hid (pb++[kb]=pc):=hpc;obtain⟨X,hX⟩:∃X,wr.alloc (.cells (j6 ((c,s),ct) sl).toArray 68)=X:=⟨_,rfl⟩;have HX:Hid (wr.alloc (.cells (j6 ((c,s),ct) sl).toArray 68)=X):=hX;have NX:Hid (Blk X wr.heap.size (j6 ((c,s),ct) sl) 68):=(by show Blk _ _ _ _;rw[<- hX];exact Blk.new wr _ _);have OX:Hid (ByF 5 w X u4 (Lib.byteCells (pre))):=(by show ByF _ _ _ _ _;rw[<- hX,<- hpre];exact HBY.out.kp ((Kp.refl wr Nul).alloc _));have HXK:Hid (Kp wr X Nul):=(by show Kp _ _ _;rw[<- hX];exact(Kp.refl wr Nul).alloc _);have HC:Hid (∀wq,Blk wq wr.heap.size (j6 ((c,s),ct) sl) 68->wq.cell? ⟨wr.heap.size,0,none⟩=some (.int .i64 c)/\wq.cell? ⟨wr.heap.size,1,none⟩=some (.int .i64 s)):=(fun wq hb=>⟨hb.cell rfl,hb.cell rfl⟩);have HKk:Hid (∀wq,Blk wq wr.heap.size (j6 ((c,s),ct) sl) 68->wq.cell? ⟨wr.heap.size,2,none⟩=some (.int .i64 ct.k)):=fun wq hb=>hb.cell rfl
   have HNd:Hid (ct.k=2->∀wq,Blk wq wr.heap.size (j6 ((c,s),ct) sl) 68->Kp wr wq (fun b=>wr.heap.size<=b)->False∨True):=(fun _ _ _ _=>.inr trivial);clear hk0 hiy hys hget hgk hkc hvc hdr hp' hrow htr hvb hkb hbx hpre hki hkd hlp hlx hX HNd hpa hpb hpc;go_wp2_with (first
    | (refine wpList_load_mid rfl 68 (.tmp 33) rfl b (i*23) rfl (j6 ((c,s),ct) sl) _ HRow.out Tryz.underlying68 rfl j0c ?_)
    | (refine I5 rfl 68 (.tmp 6) (.tmp 34) rfl _ _ _ _ _ (by first|rfl|simp) rfl rfl rfl j0c (all_oneCell_toArray (j0D _ O1.out)) ?_)
    | (rw[HX.out])
    | fail)
   refine wp_region_noPanic ?_;refine F5 (fun w':World=>Blk w' wr.heap.size (j6 ((c,s),ct) sl) 68) (by kernel_rfl) (NX.out.drew) (fun hHeld=>?_);refine j3 (i:=0) (v:=u4) (some 35) rfl rfl (by kernel_rfl) (fun _ _ _ h=>h) (Or.inl ⟨by rfl,?_⟩) hHeld ?_
   ·intro w' hSw;clear hSw;go_simp
   simp only[Act.put,Sz0,Sz1,Sz2];refine j3 (i:=1) (v:=.pointer (some ⟨wr.heap.size,0,none⟩)) (some 36) rfl rfl (by kernel_rfl) (fun _ _ _ h=>h) (Or.inl ⟨by rfl,?_⟩) hHeld ?_
   ·intro w' hSw;clear hSw;go_simp
   simp only[Act.put,Sz0,Sz1,Sz2];refine j3 (i:=2) (v:=.pointer (some ⟨wr.heap.size,0,none⟩)) (some 37) rfl rfl (by kernel_rfl) (fun _ _ _ h=>h) (Or.inl ⟨by rfl,?_⟩) hHeld ?_
   ·intro w' hSw;clear hSw;go_simp
   simp only[Act.put,Sz0,Sz1,Sz2];refine j3 (i:=3) (v:=.int .i64 c) (some 38) rfl rfl (by kernel_rfl) (fun _ _ _ h=>h) (Or.inl ⟨by rfl,?_⟩) hHeld ?_
   ·intro w' hSw;have s0:=(HC.out w' hSw).1;clear hSw;go_simp
   simp only[Act.put,Sz0,Sz1,Sz2];refine j3 (i:=4) (v:=.int .u64 c) (some 39) rfl rfl (by kernel_rfl) (fun _ _ _ h=>h) (Or.inl ⟨by rfl,?_⟩) hHeld ?_
   ·intro w' hSw;have s0:=HVc.out;clear hSw;go_simp
   simp only[Act.put,Sz0,Sz1,Sz2];refine j3 (i:=7) (v:=.pointer (some ⟨wr.heap.size,0,none⟩)) (some 42) rfl rfl (by kernel_rfl) (fun _ _ _ h=>h) (Or.inl ⟨by rfl,?_⟩) hHeld ?_
   ·intro w' hSw;clear hSw;go_simp
   simp only[Act.put,Sz0,Sz1,Sz2];refine j3 (i:=8) (v:=.pointer (some ⟨wr.heap.size,1,none⟩)) (some 43) rfl rfl (by kernel_rfl) (fun _ _ _ h=>h) (Or.inl ⟨by rfl,?_⟩) hHeld ?_
   ·intro w' hSw;clear hSw;go_simp
   simp only[Act.put,Sz0,Sz1,Sz2];refine j3 (i:=9) (v:=.int .i64 s) (some 44) rfl rfl (by kernel_rfl) (fun _ _ _ h=>h) (Or.inl ⟨by rfl,?_⟩) hHeld ?_
   ·intro w' hSw;have s0:=(HC.out w' hSw).2;clear hSw;go_simp
   simp only[Act.put,Sz0,Sz1,Sz2];refine j3 (i:=10) (v:=.int .u64 s) (some 45) rfl rfl (by kernel_rfl) (fun _ _ _ h=>h) (Or.inl ⟨by rfl,?_⟩) hHeld ?_
   ·intro w' hSw;have s0:=HVs.out;clear hSw;go_simp
   simp only[Act.put,Sz0,Sz1,Sz2];refine D9 (i:=5) (by kernel_rfl) rfl rfl (fun K hK=>?_);go_simp;refine(HNc.out _).mono ?_;rintro e w3 ⟨v3,rfl,h3⟩;have B3:Hid (ByF 5 X.drew w3 v3 (Lib.byteCells (le 2 c.toNat))):=h3;have O3:Hid (ByF 5 w w3 u4 (Lib.byteCells (pre))):=OX.out.kp (((Kp.refl X Nul).drew).trans h3.is24);have N3:Hid (Blk w3 wr.heap.size (j6 ((c,s),ct) sl) 68):=NX.out.kp (((Kp.refl X Nul).drew).trans h3.is24) (fun x=>x);refine hK.out _ _ N3.out (fun hHeld=>?_);clear hK K h3
   (try simp only[Act.put,Sz0,Sz1,Sz2])
   refine D9 (i:=6) (by kernel_rfl) rfl rfl (fun K hK=>?_);refine j3F (.tmp 35) (.tmp 40) 70 rfl rfl rfl O3.out B3.out.src HL1.out ?_;intro v4 w4 h4 k4;have O4:Hid (ByF 5 w w4 v4 (Lib.byteCells pa)):=(by rw[HPA.out] at h4;exact h4);have N4:Hid (Blk w4 wr.heap.size (j6 ((c,s),ct) sl) 68):=k4 _ _ _ (by decide) N3.out;refine hK.out _ _ N4.out (fun hHeld=>?_);clear hK K h4 k4 O3 B3 N3;show wpAnyH _ _ _ _ _ _ _ (Act.put _ (some 41) _) _;simp only[Act.put,Sz0,Sz1,Sz2];refine D9 (i:=11) (by kernel_rfl) rfl rfl (fun K hK=>?_);go_simp;refine(HNs.out _).mono ?_;rintro e w5 ⟨v5,rfl,h5⟩;have B5:Hid (ByF 5 w4 w5 v5 (Lib.byteCells (le 2 s.toNat))):=h5;have O5:Hid (ByF 5 w w5 v4 (Lib.byteCells pa)):=O4.out.kp h5.is24;have N5:Hid (Blk w5 wr.heap.size (j6 ((c,s),ct) sl) 68):=N4.out.kp h5.is24 (fun x=>x);refine hK.out _ _ N5.out (fun hHeld=>?_)
   clear hK K h5 O4 N4
   (try simp only[Act.put,Sz0,Sz1,Sz2])
   refine D9 (i:=12) (by kernel_rfl) rfl rfl (fun K hK=>?_);refine j3F (.tmp 41) (.tmp 46) 70 rfl rfl rfl O5.out B5.out.src HL2.out ?_;intro v6 w6 h6 k6;have O6:Hid (ByF 5 w w6 v6 (Lib.byteCells pb)):=(by rw[HPB.out] at h6;exact h6);have N6:Hid (Blk w6 wr.heap.size (j6 ((c,s),ct) sl) 68):=k6 _ _ _ (by decide) N5.out;refine hK.out _ _ N6.out (fun hHeld=>?_);clear hK K h6 k6 O5 B5 N5;show wpAnyH _ _ _ _ _ _ _ (Act.put _ (some 47) _) _;simp only[Act.put,Sz0,Sz1,Sz2];refine j3 (i:=13) (v:=v6) (some 4) rfl rfl (by kernel_rfl) (fun _ _ _ h=>h) (Or.inl ⟨by rfl,?_⟩) hHeld ?_
   ·intro w' hSw;clear hSw;go_simp
   simp only[Act.put,Sz0,Sz1,Sz2];refine wpAnyH_done (by kernel_rfl) ?_ _;refine NoPanic.normal ?_;have kk6:=HKk.out w6 N6.out;go_wp2_with (first
    | (at_builtin;refine j3D rfl (.tmp 48) (.tmp 53) 70 rfl rfl rfl (O6.out.kp ((Kp.refl w6 Nul).alloc _)) (U0 kb w6) HL3.out ?_)
    | fail)
   intro v8 w8 h8 k8;have O8:Hid (ByF 5 w w8 v8 (Lib.byteCells pc)):=(by rw[HPC.out] at h8;exact h8);have N8:Hid (Blk w8 wr.heap.size (j6 ((c,s),ct) sl) 68):=k8 _ _ _ (by decide) (N6.out.alloc _);clear h8 k8 O6 N6 kk6;have kk8:=HKk.out w8 N8.out;cases HCt.out with
   | plain hk hv=>
    have HBv:Hid (bx=vlB ct.v):=(by show _=_;rw[<- HBX.out,if_neg (by rw[hk];decide)]);have HVal:Hid (∀w,Blk w wr.heap.size (j6 ((c,s),ct) sl) 68->Calls Tryz.prog 36 #[.agg #[.int .i64 ct.v.k,.float .f64 ct.v.x,.string ct.v.s,.bool ct.v.b,.int .i64 ct.v.f]] w fun e w'=>∃v',e=.returned v'/\ByF 5 w w' v' (Lib.byteCells bx)):=(fun w _=>by rw[HBv.out];exact jDh ct.v w hv);have e3:w8.cell? ⟨wr.heap.size,3,none⟩=some (.int .i64 ct.v.k):=N8.out.cell rfl;have e4:w8.cell? ⟨wr.heap.size,4,none⟩=some (.float .f64 ct.v.x):=N8.out.cell rfl;have e5:w8.cell? ⟨wr.heap.size,5,none⟩=some (.string ct.v.s):=N8.out.cell rfl;have e6:w8.cell? ⟨wr.heap.size,6,none⟩=some (.bool ct.v.b):=N8.out.cell rfl;have e7:w8.cell? ⟨wr.heap.size,7,none⟩=some (.int .i64 ct.v.f):=N8.out.cell rfl;rw[hk] at kk8;clear hk hv HBv;go_wp2_with fail;refine(HVal.out w8 N8.out).mono ?_
    rintro e wa ⟨va,rfl,ha⟩;have BA:Hid (ByF 5 w8 wa va (Lib.byteCells (bx))):=ha;have OA:Hid (ByF 5 w wa v8 (Lib.byteCells pc)):=O8.out.kp ha.is24;clear ha;go_wp2_with (at_builtin;refine j3D rfl (.tmp 59) (.tmp 63) 70 rfl rfl rfl OA.out BA.out.src HL4.out ?_);intro v9 w9 h9 _;have H9:Hid (ByF 5 w w9 v9 (Lib.byteCells (D5++le 2 n++csB (Kd.take (i+1))))):=by
     show ByF _ _ _ _ _;rw[HTK.out,HCB.out];exact h9
    clear h9;go_wp2_with fail;go_roundw
    case rel=>exact⟨i+1,by omega,by go_num,H9.out⟩
    case measure=>simp only[RowKit.intOf];omega
   | form hk ht hs=>
    have HBn:Hid (bx=ndB ct.t):=(by show _=_;rw[<- HBX.out,if_pos hk]);have HNod:Hid (∀wz,Blk w8 wr.heap.size (j6 ((c,s),ct) sl) 68∨wz=w8->Calls Tryz.prog 37 #[.agg (ct.t.hd.cells sl).toArray] w8 fun e w'=>∃v',e=.returned v'/\ByF 5 w8 w' v' (Lib.byteCells bx)):=(fun _ _=>by rw[HBn.out];exact jCv 256 ct.t sl (fun _=>True) w8 hs ht (HTr.out w8 O8.out.is24) (by omega));have HRn:Hid (w8.rangeAt wr.heap.size 8 (ct.t.hd.cells sl)):=j8R (pre:=[.int .i64 c,.int .i64 s,.int .i64 ct.k,.int .i64 ct.v.k,.float .f64 ct.v.x,.string ct.v.s,.bool ct.v.b,.int .i64 ct.v.f]) (post:=[]) N8.out (by rw[List.append_nil];rfl);rw[hk] at kk8;clear hk ht hs HBn;go_wp2_with (first|(refine wpList_load_mid rfl 64 (.tmp 67) rfl wr.heap.size 8 rfl (ct.t.hd.cells sl) _ HRn.out Tryz.underlying64 rfl z6 ?_)|fail);refine(HNod.out w8 (.inr rfl)).mono ?_
    rintro e wa ⟨va,rfl,ha⟩;have BA:Hid (ByF 5 w8 wa va (Lib.byteCells (bx))):=ha;have OA:Hid (ByF 5 w wa v8 (Lib.byteCells pc)):=O8.out.kp ha.is24;clear ha;go_wp2_with (at_builtin;refine j3D rfl (.tmp 65) (.tmp 69) 70 rfl rfl rfl OA.out BA.out.src HL4.out ?_);intro v9 w9 h9 _;have H9:Hid (ByF 5 w w9 v9 (Lib.byteCells (D5++le 2 n++csB (Kd.take (i+1))))):=by
     show ByF _ _ _ _ _;rw[HTK.out,HCB.out];exact h9
    clear h9;go_wp2_with fail;go_roundw
    case rel=>exact⟨i+1,by omega,by go_num,H9.out⟩
    case measure=>simp only[RowKit.intOf];omega
  ·have hie:i=n:=(by omega);subst hie;have HBo:Hid (ByF 5 w wr u4 (Lib.byteCells (D6 Kd))):=by
    have h:=HBY.out;have e:D5++le 2 i++csB (Kd.take i)=D6 Kd:=(by unfold D6;rw[HN.out.2.1,<- HN.out.2.1,List.take_length]);rw[e] at h;exact h
   obtain⟨lb,hlb⟩:∃lb,D6 Kd=lb:=⟨_,rfl⟩;have hll:lb.length<=73728000006:=by
    rw[<- hlb];unfold D6;rw[List.length_append,List.length_append,D8];have h2:=HCL.out;have h3:D5.length=4:=rfl;omega
   have hl4:4<=lb.length:=by
    rw[<- hlb];unfold D6;rw[List.length_append,List.length_append,D8];have h3:D5.length=4:=rfl;omega
   have hFB:D2 Kd=lb++le 4 (crcS lb):=(by unfold D2;rw[hlb]);rw[hlb] at HBo HNu4 HV4;obtain⟨cr,hcr⟩:∃cr,crcS lb=cr:=⟨_,rfl⟩;have HFB:Hid (D2 Kd=lb++le 4 cr):=(by show _=_;rw[hFB,hcr]);rw[hcr] at HNu4 HV4;obtain⟨ln,hln⟩:∃ln,lb.length=ln:=⟨_,rfl⟩;obtain⟨b9,c9,hu4⟩:∃b9 c9,u4=.slice (some ⟨b9,0,none⟩) ln c9:=by
    obtain⟨g,h1,_,_⟩:=HBo.out;rcases h1.form with ⟨_,_,e⟩|⟨b,c,e,_⟩
    ·have:=congrArg List.length e;rw[Lib.byteCells_length,List.length_nil] at this;omega
    ·rw[Lib.byteCells_length,hln] at e;exact⟨b,c,e⟩
   subst hu4;have HSum:Hid (Calls Tryz.prog 38 #[.slice (some ⟨b9,0,none⟩) ln c9] wr fun e w'=>e=.returned (.int .u32 (cr:Nat))/\w'=wr):=by
    rw[<- hcr];refine j2x b9 0 ln c9 lb hln (by omega) wr (fun j x hx=>?_);obtain⟨g,h1,_,_⟩:=HBo.out;rw[Nat.zero_add];refine h1.cell j _ ?_;unfold Lib.byteCells;rw[List.getElem?_map,hx]
    rfl
   have hcv:=HV4.out;have HLn:Hid (lb.length=ln/\ln<=73728000006):=⟨hln,by omega⟩;clear hi hlt hlb hll hl4 hFB hcr hln HBY HV4;go_wp2_with fail;refine HSum.out.mono ?_;rintro e w5 ⟨rfl,hz⟩;replace hz:=hz.symm;subst hz;go_wp2_with fail;clear hcv;refine(HNu4.out _).mono ?_;rintro e w6 ⟨v6,rfl,h6⟩;have B6:Hid (ByF 5 wr w6 v6 (Lib.byteCells (le 4 cr))):=h6;have O6:Hid (ByF 5 w w6 (.slice (some ⟨b9,0,none⟩) ln c9) (Lib.byteCells lb)):=HBo.out.kp h6.is24;clear h6 HBo HSum;go_wp2_with (at_builtin;refine L0 rfl (.tmp 71) (.tmp 75) 70 rfl rfl rfl O6.out B6.out.src (by have:=HLn.out;rw[D8];omega) ?_);intro v7 w7 h7;rw[<- HFB.out] at h7;have O7:Hid (ByF 5 w w7 v7 (Lib.byteCells (D2 Kd))):=h7;have hcs:(convert 70 9 v7).run Tryz.prog w7=.ok (.string ⟨(D2 Kd).toArray⟩) w7:=by
    obtain⟨g,h1,_,_⟩:=h7;exact jDW h1
   obtain⟨p7,c7,hv7⟩:∃p7 c7,v7=.slice p7 (D2 Kd).length c7:=by
    obtain⟨g,h1,_,_⟩:=h7;obtain⟨p7,c7,e,_⟩:=h1.shape;rw[Lib.byteCells_length] at e;exact⟨p7,c7,e⟩
   clear h7 B6 O6;subst hv7;by_cases hlen:(D2 Kd).length<=4194304
   ·have e1:pkS Kd=D2 Kd:=if_pos hlen;have e2:pkE Kd=0:=if_pos hlen;have HE1:Hid (pkS Kd=D2 Kd/\pkE Kd=0):=⟨e1,e2⟩;have hl':¬(4194304:Int)<((D2 Kd).length:Int):=(by omega);clear e1 e2 hlen;generalize (D2 Kd).length=lf at *;go_wp2_with fail;refine bodyPost_ret (results_tmp2 rfl _ _ _) rfl ?_;exact⟨by rw[HE1.out.1,HE1.out.2];rfl,O7.out.is24⟩
   ·have e1:pkS Kd=[]:=if_neg hlen;have e2:pkE Kd=2:=if_neg hlen;have HE1:Hid (pkS Kd=[]/\pkE Kd=2):=⟨e1,e2⟩;have hl':(4194304:Int)<((D2 Kd).length:Int):=(by omega);clear e1 e2 hlen hcs;generalize (D2 Kd).length=lf at *;go_wp2_with fail;refine bodyPost_ret (results_tmp2 rfl _ _ _) rfl ?_;exact⟨by rw[HE1.out.1,HE1.out.2];rfl,O7.out.is24⟩
end
section
open Go.RowKit Go.Maps Go.Sort Go.Lib Go.Shelf
attribute [local go_sem] Oper.semAt_some
structure AlI (w:World) (r j:Nat) (Z:Nat->Prop) (W:World):Prop where
 b0:Blk W w.heap.size [.pointer (some ⟨r,0,none⟩)] 24
 b1:Blk W (w.heap.size+1) [.bool false] 4
 b2:Blk W (w.heap.size+2) [.int .i64 (j:Nat)] 3
 z:∀i,Z i↔i=w.heap.size+2
 kp:Kp w W Nul
theorem j76 (g r Bd:Nat)(L Kd:List Cc)(v:Value)(ys:List (Cc×Value))(w:World)(ht:Two w Bd g r L Kd v ys):
 Calls Tryz.prog 9 #[.pointer (some ⟨g,0,none⟩),.pointer (some ⟨r,0,none⟩)] w fun e w'=>e=.returned (.bool true)/\Kp w w' Nul:=by
 obtain⟨pp,cp,rfl,hpp⟩:=ht.dg.pts.slice;obtain⟨n,hn⟩:∃n,ys.length=n:=⟨_,rfl⟩;have hKn:Kd.length=n:=by rw[<- ht.ks,List.length_map,hn]
 have HN:Hid (ys.length=n/\Kd.length=n/\n<=4096/\ys.map (·.1)=Kd):=⟨hn,hKn,by have h1:=ht.al.len;have h2:=ht.ok.len;omega,ht.ks⟩;have hg:GI 0 w g L:=j9.mono ht.gi (fun _ _=>Nat.zero_le _);have HG:Hid (∀wq,Kp w wq Nul->GI 0 wq g L):=fun wq k=>hg.kp k
 have HGA:Hid (∀wq,Kp w wq Nul->j9 wq (fun b=>b<w.heap.size) g L):=fun wq k=>hg.low.kp k
 have HDG:Hid (∀wq,Kp w wq Nul->DG wq Bd r (.slice pp ys.length cp) ys):=fun wq k=>ht.dg.kp k
 have HR0:Hid (∀wq,Kp w wq Nul->wq.cell? ⟨r,0,none⟩=some (.slice pp n cp)):=fun wq k=>by
  have h:=(HDG.out wq k).box.cell (i:=0) rfl;rw[hn] at h;exact h
 have HOk:Hid (Ok17 L):=ht.ok;have HAl:Hid (Al L Kd):=ht.al;obtain⟨W1,hW1⟩:∃W1,((w.alloc (.cells #[.pointer (some ⟨r,0,none⟩)] 24)).alloc (.cells #[.bool false] 4)).alloc (.cells #[.int .i64 0] 3)=W1:=⟨_,rfl⟩;have HW1:Hid (((w.alloc (.cells #[.pointer (some ⟨r,0,none⟩)] 24)).alloc (.cells #[.bool false] 4)).alloc (.cells #[.int .i64 0] 3)=W1):=hW1;have HK1:Hid (Kp w W1 Nul):=by show Kp _ _ _;rw[<- hW1];exact(((Kp.refl w Nul).alloc _).alloc _).alloc _
 have HS1:Hid (W1.heap.size=w.heap.size+3):=by show _=_;rw[<- hW1,World.size_alloc,World.size_alloc,World.size_alloc]
 have HA1:Hid (AlI w r 0 (fun i=>i=w.heap.size+2) W1):=by
  refine⟨?_,?_,?_,fun _=>Iff.rfl,HK1.out⟩
  ·rw[<- hW1];exact((Blk.new w _ _).alloc _).alloc _
  ·have:=Blk.new (w.alloc (.cells #[.pointer (some ⟨r,0,none⟩)] 24)) [.bool false] 4;rw[World.size_alloc] at this;rw[<- hW1];exact this.alloc _
  ·have:=Blk.new ((w.alloc (.cells #[.pointer (some ⟨r,0,none⟩)] 24)).alloc (.cells #[.bool false] 4)) [.int .i64 0] 3;rw[World.size_alloc,World.size_alloc] at this;rw[<- hW1];exact this
 have hn1:=fun wq=>j2d g wq
 have hn2:=fun wq=>j4w r wq
 have HAll:Hid (Calls Tryz.prog 30 #[.pointer (some ⟨g,0,none⟩)] W1 fun e w'=>∃x0 x1,e=.returned (.func (.func 123) #[] #[.pointer (some ⟨x0,0,none⟩),.pointer (some ⟨x1,0,none⟩)])/\Blk w' x0 [.pointer (some ⟨g,0,none⟩)] 23/\Blk w' x1 [.int .i64 1,.int .i64 1,.int .i64 256,.int .i64 4096] 134/\Kp W1 w' Nul):=j3N g W1;clear ht hpp hn hKn hg hW1;refine(callsIn_wide (n:=12)).1 ?_;refine callsIn_of_wp_marks Tryz.func9 rfl trivial ?_ rfl;simp only[Tryz.ntmps9,List.size_toArray,List.length_cons,List.length_nil,Nat.reduceAdd,Nat.reduceSub,Array.replicate_succ,Array.replicate_zero,List.push_toArray,List.append_toArray,List.nil_append,List.cons_append];refine wpIn_wide.2 ?_;go_wp2_with fail;rw[HW1.out];refine HAll.out.mono ?_;rintro e w6 ⟨x0,x1,rfl,hb0,hb1,hk6⟩;have HX0:Hid (Blk w6 x0 [.pointer (some ⟨g,0,none⟩)] 23):=hb0
 have HX1:Hid (Blk w6 x1 [.int .i64 1,.int .i64 1,.int .i64 256,.int .i64 4096] 134):=hb1;have k6:Kp w w6 Nul:=HK1.out.trans hk6;have hs6:w.heap.size+3<=w6.heap.size:=by have:=HS1.out;have:=hk6.size;omega
 have HI0:AlI w r 0 (fun i=>i=w.heap.size+2) w6:=⟨HA1.out.b0.kp hk6 (fun x=>x),HA1.out.b1.kp hk6 (fun x=>x),HA1.out.b2.kp hk6 (fun x=>x),fun _=>Iff.rfl,k6⟩;have hgA:j9 w6 (fun b=>b<w.heap.size) g L:=HGA.out w6 k6;have hnf:=fun wq=>j9G 123 #[.pointer (some ⟨x0,0,none⟩),.pointer (some ⟨x1,0,none⟩)] wq
 clear hb0 hb1 hk6 HAll HW1 HA1 HK1 HS1 hn1 hn2;go_wp2_with fail;generalize hact:Act.mk _ _=a0;refine j6t (α:=(Cc×Value)×List Nat) (N:=Kd.length) (gf:=123) (lb:=#[.pointer (some ⟨x0,0,none⟩),.pointer (some ⟨x1,0,none⟩)]) (by rw[<- hact];rfl) (enters_of Tryz.func123 (by kernel_rfl) rfl) (encs:=encQ) wtQ (fun _=>rfl) (j0v w6 Kd) ?hT (fun i=>i=w.heap.size+2) ?hseq (fun j Z W=>AlI w r j Z W) ?hZ ?hZl ?hI (fun _=>False) ?hIx (fun i=>i=w.heap.size+2) HI0 ?hround ?hdone ?hstop
 case hT=>rintro k x Z W ⟨_,_,_,h⟩;exact⟨fun q=>by have:=(h _ q).1;omega,fun q=>by have:=(h _ q).1;omega⟩
 case hseq=>exact j4a g x0 x1 w.heap.size L Kd w6 _ (HG.out _ k6) hgA HOk.out.gd HOk.out.at' HOk.out.len HAl.out.st HAl.out.mem k6.size (fun i e=>by have e':i=w.heap.size+2:=e;omega) HX0.out HX1.out
 case hZ=>
  intro j Z W h;exact⟨fun q=>by have:=(h.z _).1 q;omega,fun q=>by have:=(h.z _).1 q;omega⟩
 case hZl=>
  intro j Z W h;exact⟨fun i hi=>by have:=(h.z _).1 hi;have h2:=h.b2.lt;omega,fun i _ hi=>(h.z _).1 hi⟩
 case hI=>
  intro j Z W W' h q;exact⟨h.b0.kp q (fun e=>by rcases e with e|e <;> omega),h.b1.kp q (fun e=>by rcases e with e|e <;> omega),h.b2.kp q (fun e=>by rcases e with e|e <;> omega),h.z,h.kp.trans' q (fun i hi e=>by rcases e with e|e <;> omega)⟩
 case hIx=>exact fun W W' h _=>h.elim
 case hround=>
  subst hact;rintro j ⟨⟨⟨⟨c,s⟩,a⟩,sl⟩,fp⟩ Z W KK hkN hsW hI ⟨hKk,hown,hnd,hfz⟩ hcont;have O1:Hid (sl.oneCell'=true):=hown.one;have hmem:((c,s),a)∈L:=(HAl.out.mem _).1 (List.mem_of_getElem? hKk);have HGd:Hid (Gd a):=HOk.out.gd _ hmem;have HIj:Hid (AlI w r j Z W):=hI;have HOwn:Hid (E6 W sl a.t fp):=hown;have HFz:Hid (∀i∈fp,w6.heap.size+2<=i/\¬Z i):=hfz;have HSW:Hid (w6.heap.size+2<=W.heap.size/\w.heap.size+3<=w6.heap.size):=⟨hsW,hs6⟩;have hjn:j<n:=by rw[<- HN.out.2.1];exact hkN
  obtain⟨⟨y1,sr⟩,hys⟩:∃y,ys[j]? = some y:=⟨_,List.getElem?_eq_getElem (by rw[HN.out.1];exact hjn)⟩;have hy1:y1=((c,s),a):=by
   have:Kd[j]? = some y1:=(by rw[<- HN.out.2.2.2,List.getElem?_map,hys];rfl);rw[hKk] at this;injection this with this;exact this.symm
  subst hy1;have HYs:Hid (ys[j]? = some (((c,s),a),sr)):=hys;have HJn:Hid (j<n):=hjn;have HJ2:Hid ((0:Int)<=(j:Int)/\(j:Int)<(n:Int)):=⟨by omega,by omega⟩;have hjb:(j:Int)+1<=9223372036854775807:=by have:=HN.out.2.2.1;omega
  clear hI hKk hown hnd hfz hmem HX0 HX1 HI0 hgA k6 HG HGA hsW hs6 hys hjn hkN hnf;simp only[List.zip_toArray,List.zip_cons_cons,List.zip_nil_right,List.foldl_toArray',List.foldl_cons,List.foldl_nil]
  gi_wp2_with (first
   | (refine j34 rfl 66 (.tmp 8) (.tmp 27) rfl _ _ _ _ (by first|rfl|simp) rfl rfl rfl E8 (a.one O1.out) ?_)
   | fail)
  refine hcont _ _ (((Kp.refl W Nul).alloc _).alloc _) (fun V hV hloop=>?_);have hW2:Kp W ((W.alloc (.cells #[.int .i64 c,.int .i64 s] 57)).alloc (.cells (a.cells sl).toArray 66)) Nul:=((Kp.refl W Nul).alloc _).alloc _;have hWV:Kp W V (fun i=>i=w6.heap.size+1):=(hW2.mono (fun _ _ q=>q.elim)).trans hV;have HbA:Hid (∀wq,Kp V wq Nul->Blk wq W.heap.size [.int .i64 c,.int .i64 s] 57):=fun wq k=>(((Blk.new W [.int .i64 c,.int .i64 s] 57).alloc _).kp hV (fun e=>by have e':W.heap.size=w6.heap.size+1:=e;have:=HSW.out;omega)).kp k (fun x=>x)
  have HbC:Hid (∀wq,Kp V wq Nul->Blk wq (W.heap.size+1) (a.cells sl) 66):=fun wq k=>by
   have h1:=Blk.new (W.alloc (.cells #[.int .i64 c,.int .i64 s] 57)) (a.cells sl) 66;rw[World.size_alloc] at h1;exact(h1.kp hV (fun e=>by have e':W.heap.size+1=w6.heap.size+1:=e;have:=HSW.out;omega)).kp k (fun x=>x)
  have HOwnV:Hid (E6 V sl a.t fp):=HOwn.out.mono (fun i hi=>hWV.block i (j2f (HOwn.out.node i hi)) (fun e=>by have e':i=w6.heap.size+1:=e;have:=(HFz.out i hi).1;omega));have HIV:Hid (AlI w r j Z V):=⟨HIj.out.b0.kp hWV (fun e=>by have e':w.heap.size=w6.heap.size+1:=e;have:=HSW.out;omega),HIj.out.b1.kp hWV (fun e=>by have e':w.heap.size+1=w6.heap.size+1:=e;have:=HSW.out;omega),HIj.out.b2.kp hWV (fun e=>by have e':w.heap.size+2=w6.heap.size+1:=e;have:=HSW.out;omega),HIj.out.z,HIj.out.kp.trans' hWV (fun i hi e=>by have e':i=w6.heap.size+1:=e;have:=HSW.out;omega)⟩;obtain⟨b,hb⟩:∃b,pp=some ⟨b,0,none⟩:=by
   obtain⟨p',c',e1,hp'⟩:=(HDG.out V HIV.out.kp).pts.slice;injection e1 with e1 e2 e3;obtain⟨b,e5,_,_⟩:=hp' (by have:=(List.getElem?_eq_some_iff.1 HYs.out).1;omega);exact⟨b,e1.trans e5⟩
  subst hb;have HRw:Hid (∀wq,Kp V wq Nul->wq.rangeAt b (j*23) [.int .i64 c,.int .i64 s]/\wq.rangeAt b (j*23+2) (a.cells sr)):=fun wq k=>by
   obtain⟨p',c',e1,hp'⟩:=(HDG.out wq (HIV.out.kp.trans k)).pts.slice;injection e1 with e1 e2 e3;obtain⟨b',e5,_,hr⟩:=hp' (by have:=(List.getElem?_eq_some_iff.1 HYs.out).1;omega);rw[e5] at e1;injection e1 with e1;injection e1 with e1 _ _;subst e1;exact j59 (hr j _ HYs.out)
  have HV:Hid (∀wq,Kp V wq Nul->wq.cell? ⟨w.heap.size+2,0,none⟩=some (.int .i64 (j:Nat))/\wq.cell? ⟨w.heap.size,0,none⟩=some (.pointer (some ⟨r,0,none⟩))/\wq.cell? ⟨r,0,none⟩=some (.slice (some ⟨b,0,none⟩) n cp)):=fun wq k=>⟨(HIV.out.b2.kp k (fun x=>x)).cell rfl,(HIV.out.b0.kp k (fun x=>x)).cell rfl,HR0.out wq (HIV.out.kp.trans k)⟩
  have HSame:Hid (∀wq,Kp V wq Nul->Calls Tryz.prog 39 #[.agg (a.cells sl).toArray,.agg (a.cells sr).toArray] wq fun e w'=>e=.returned (.bool true)/\Kp wq w' Nul):=fun wq k=>by
   have h:=jCY a a sl sr (fun _=>True) (fun _=>True) wq HGd.out.x HGd.out.x HGd.out.ok HGd.out.ok ((HOwnV.out.isIn (fun _ _=>trivial)).kp k (fun _ _ x=>x)) ((HDG.out wq (HIV.out.kp.trans k)).pts.tree _ (List.mem_of_getElem? HYs.out));rw[j3t] at h;exact h
  clear hcont hV hW2 hWV hloop
  gi_wp2_with (fail)
  refine j5W ?_;refine jCk (fun w':World=>Kp V w' Nul) (by kernel_rfl) (by kernel_rfl) (jB8 (fun a w h=>Or.elim h (fun q=>Exit.noConfusion (And.left q)) (fun q=>Exit.noConfusion (And.left q)))) ((Kp.refl V Nul).drew) (fun hHeld=>?_);refine j3 (i:=0) (v:=.int .i64 (j:Nat)) (some 28) rfl rfl (by kernel_rfl) (fun _ _ _ h=>h) (Or.inl ⟨by rfl,?_⟩) hHeld ?_
  ·intro w' hSw;have s0:=(HV.out w' hSw).1;clear hSw;go_simp
  simp only[Act.put,Sz0,Sz1,Sz2];refine j3 (i:=1) (v:=.pointer (some ⟨r,0,none⟩)) (some 29) rfl rfl (by kernel_rfl) (fun _ _ _ h=>h) (Or.inl ⟨by rfl,?_⟩) hHeld ?_
  ·intro w' hSw;have s0:=(HV.out w' hSw).2.1;clear hSw;go_simp
  simp only[Act.put,Sz0,Sz1,Sz2];refine j3 (i:=2) (v:=.pointer (some ⟨r,0,none⟩)) (some 30) rfl rfl (by kernel_rfl) (fun _ _ _ h=>h) (Or.inl ⟨by rfl,?_⟩) hHeld ?_
  ·intro w' hSw;clear hSw;go_simp
  simp only[Act.put,Sz0,Sz1,Sz2];refine j3 (i:=3) (v:=.pointer (some ⟨r,0,none⟩)) (some 31) rfl rfl (by kernel_rfl) (fun _ _ _ h=>h) (Or.inl ⟨by rfl,?_⟩) hHeld ?_
  ·intro w' hSw;clear hSw;go_simp
  simp only[Act.put,Sz0,Sz1,Sz2];refine j3 (i:=4) (v:=.slice (some ⟨b,0,none⟩) n cp) (some 32) rfl rfl (by kernel_rfl) (fun _ _ _ h=>h) (Or.inl ⟨by rfl,?_⟩) hHeld ?_
  ·intro w' hSw;have s0:=(HV.out w' hSw).2.2;clear hSw;go_simp
  simp only[Act.put,Sz0,Sz1,Sz2];refine j3 (i:=5) (v:=.int .i64 (n:Nat)) (some 33) rfl rfl (by kernel_rfl) (fun _ _ _ h=>h) (Or.inl ⟨by rfl,?_⟩) hHeld ?_
  ·intro w' hSw;clear hSw;go_simp
  simp only[Act.put,Sz0,Sz1,Sz2];refine j3 (i:=6) (v:=.bool false) (some 34) rfl rfl (by kernel_rfl) (fun _ _ _ h=>h) (Or.inl ⟨by rfl,?_⟩) hHeld ?_
  ·intro w' hSw;clear hSw;go_simp;exact HJn.out
  simp only[Act.put,Sz0,Sz1,Sz2];refine j3 (i:=7) (v:=.bool false) (some 35) rfl rfl (by kernel_rfl) (fun _ _ _ h=>h) (Or.inl ⟨by rfl,?_⟩) hHeld ?_
  ·intro w' hSw;clear hSw;go_simp
  simp only[Act.put,Sz0,Sz1,Sz2];refine j3 (i:=8) (v:=.pointer (some ⟨r,0,none⟩)) (some 36) rfl rfl (by kernel_rfl) (fun _ _ _ h=>h) (Or.inl ⟨by rfl,?_⟩) hHeld ?_
  ·intro w' hSw;have s0:=(HV.out w' hSw).2.1;clear hSw;go_simp
  simp only[Act.put,Sz0,Sz1,Sz2];refine j3 (i:=9) (v:=.pointer (some ⟨r,0,none⟩)) (some 37) rfl rfl (by kernel_rfl) (fun _ _ _ h=>h) (Or.inl ⟨by rfl,?_⟩) hHeld ?_
  ·intro w' hSw;clear hSw;go_simp
  simp only[Act.put,Sz0,Sz1,Sz2];refine j3 (i:=10) (v:=.pointer (some ⟨r,0,none⟩)) (some 38) rfl rfl (by kernel_rfl) (fun _ _ _ h=>h) (Or.inl ⟨by rfl,?_⟩) hHeld ?_
  ·intro w' hSw;clear hSw;go_simp
  simp only[Act.put,Sz0,Sz1,Sz2];refine j3 (i:=11) (v:=.slice (some ⟨b,0,none⟩) n cp) (some 39) rfl rfl (by kernel_rfl) (fun _ _ _ h=>h) (Or.inl ⟨by rfl,?_⟩) hHeld ?_
  ·intro w' hSw;have s0:=(HV.out w' hSw).2.2;clear hSw;go_simp
  simp only[Act.put,Sz0,Sz1,Sz2];refine j3 (i:=12) (v:=.int .i64 (j:Nat)) (some 40) rfl rfl (by kernel_rfl) (fun _ _ _ h=>h) (Or.inl ⟨by rfl,?_⟩) hHeld ?_
  ·intro w' hSw;have s0:=(HV.out w' hSw).1;clear hSw;go_simp
  simp only[Act.put,Sz0,Sz1,Sz2];refine j3 (i:=13) (v:=.pointer (some ⟨b,j*23,none⟩)) (some 41) rfl rfl (by kernel_rfl) (fun _ _ _ h=>h) (Or.inl ⟨by rfl,?_⟩) hHeld ?_
  ·intro w' hSw;have s0:=HJ2.out.1;have s1:=HJ2.out.2;clear hSw;go_simp
  simp only[Act.put,Sz0,Sz1,Sz2];refine j3 (i:=14) (v:=.pointer (some ⟨b,j*23,none⟩)) (some 42) rfl rfl (by kernel_rfl) (fun _ _ _ h=>h) (Or.inl ⟨by rfl,?_⟩) hHeld ?_
  ·intro w' hSw;clear hSw;go_simp
  simp only[Act.put,Sz0,Sz1,Sz2];refine j3 (i:=15) (v:=.agg ([.int .i64 c,.int .i64 s]).toArray) (some 43) rfl rfl (by kernel_rfl) (fun _ _ _ h=>h) (Or.inl ⟨by rfl,fun w' hSw=>L3 57 (.tmp 42) rfl b (j*23) rfl ([.int .i64 c,.int .i64 s]) _ ((HRw.out w' hSw).1) Tryz.underlying57 rfl F4⟩) hHeld ?_;simp only[Act.put,Sz0,Sz1,Sz2];refine j3 (i:=16) (v:=.agg ([.int .i64 c,.int .i64 s]).toArray) (some 44) rfl rfl (by kernel_rfl) (fun _ _ _ h=>h) (Or.inl ⟨by rfl,fun w' hSw=>L3 57 (.tmp 7) rfl W.heap.size 0 rfl ([.int .i64 c,.int .i64 s]) _ (j0R (HbA.out w' hSw)) Tryz.underlying57 rfl F4⟩) hHeld ?_;simp only[Act.put,Sz0,Sz1,Sz2];refine j3 (i:=17) (v:=.bool false) (some 45) rfl rfl (by kernel_rfl) (fun _ _ _ h=>h) (Or.inl ⟨by rfl,?_⟩) hHeld ?_
  ·intro w' hSw;clear hSw;go_simp
  simp only[Act.put,Sz0,Sz1,Sz2];refine j3 (i:=18) (v:=.bool false) (some 46) rfl rfl (by kernel_rfl) (fun _ _ _ h=>h) (Or.inl ⟨by rfl,?_⟩) hHeld ?_
  ·intro w' hSw;clear hSw;go_simp
  simp only[Act.put,Sz0,Sz1,Sz2];refine j3 (i:=19) (v:=.bool false) (some 47) rfl rfl (by kernel_rfl) (fun _ _ _ h=>h) (Or.inl ⟨by rfl,?_⟩) hHeld ?_
  ·intro w' hSw;clear hSw;go_simp
  simp only[Act.put,Sz0,Sz1,Sz2];refine j3 (i:=20) (v:=.agg (a.cells sl).toArray) (some 48) rfl rfl (by kernel_rfl) (fun _ _ _ h=>h) (Or.inl ⟨by rfl,fun w' hSw=>U5 _ rfl rfl (HbC.out w' hSw) rfl⟩) hHeld ?_;simp only[Act.put,Sz0,Sz1,Sz2];refine j3 (i:=21) (v:=.pointer (some ⟨r,0,none⟩)) (some 49) rfl rfl (by kernel_rfl) (fun _ _ _ h=>h) (Or.inl ⟨by rfl,?_⟩) hHeld ?_
  ·intro w' hSw;have s0:=(HV.out w' hSw).2.1;clear hSw;go_simp
  simp only[Act.put,Sz0,Sz1,Sz2];refine j3 (i:=22) (v:=.pointer (some ⟨r,0,none⟩)) (some 50) rfl rfl (by kernel_rfl) (fun _ _ _ h=>h) (Or.inl ⟨by rfl,?_⟩) hHeld ?_
  ·intro w' hSw;clear hSw;go_simp
  simp only[Act.put,Sz0,Sz1,Sz2];refine j3 (i:=23) (v:=.pointer (some ⟨r,0,none⟩)) (some 51) rfl rfl (by kernel_rfl) (fun _ _ _ h=>h) (Or.inl ⟨by rfl,?_⟩) hHeld ?_
  ·intro w' hSw;clear hSw;go_simp
  simp only[Act.put,Sz0,Sz1,Sz2];refine j3 (i:=24) (v:=.slice (some ⟨b,0,none⟩) n cp) (some 52) rfl rfl (by kernel_rfl) (fun _ _ _ h=>h) (Or.inl ⟨by rfl,?_⟩) hHeld ?_
  ·intro w' hSw;have s0:=(HV.out w' hSw).2.2;clear hSw;go_simp
  simp only[Act.put,Sz0,Sz1,Sz2];refine j3 (i:=25) (v:=.int .i64 (j:Nat)) (some 53) rfl rfl (by kernel_rfl) (fun _ _ _ h=>h) (Or.inl ⟨by rfl,?_⟩) hHeld ?_
  ·intro w' hSw;have s0:=(HV.out w' hSw).1;clear hSw;go_simp
  simp only[Act.put,Sz0,Sz1,Sz2];refine j3 (i:=26) (v:=.pointer (some ⟨b,j*23,none⟩)) (some 54) rfl rfl (by kernel_rfl) (fun _ _ _ h=>h) (Or.inl ⟨by rfl,?_⟩) hHeld ?_
  ·intro w' hSw;have s0:=HJ2.out.1;have s1:=HJ2.out.2;clear hSw;go_simp
  simp only[Act.put,Sz0,Sz1,Sz2];refine j3 (i:=27) (v:=.pointer (some ⟨b,j*23+2,none⟩)) (some 55) rfl rfl (by kernel_rfl) (fun _ _ _ h=>h) (Or.inl ⟨by rfl,?_⟩) hHeld ?_
  ·intro w' hSw;clear hSw;go_simp
  simp only[Act.put,Sz0,Sz1,Sz2];refine j3 (i:=28) (v:=.agg (a.cells sr).toArray) (some 56) rfl rfl (by kernel_rfl) (fun _ _ _ h=>h) (Or.inl ⟨by rfl,fun w' hSw=>L3 66 (.tmp 55) rfl b (j*23+2) rfl (a.cells sr) _ ((HRw.out w' hSw).2) Tryz.underlying66 rfl E8⟩) hHeld ?_;simp only[Act.put,Sz0,Sz1,Sz2];refine j6m (i:=29) (by kernel_rfl) rfl (by rfl) (fun K hK=>?_);go_simp;refine(HSame.out _ ((Kp.refl V Nul).drew)).mono ?_;rintro e v2 ⟨rfl,hk2⟩;have KV2:Hid (Kp V v2 Nul):=((Kp.refl V Nul).drew).trans hk2;refine hK.out _ _ KV2.out (fun hHeld=>?_);clear hK K hk2
  (try simp only[Act.put,Sz0,Sz1,Sz2])
  refine j3 (i:=30) (v:=.bool false) (some 58) rfl rfl (by kernel_rfl) (fun _ _ _ h=>h) (Or.inl ⟨by rfl,?_⟩) hHeld ?_
  ·intro w' hSw;clear hSw;go_simp
  simp only[Act.put,Sz0,Sz1,Sz2];refine j3 (i:=31) (v:=.bool false) (some 59) rfl rfl (by kernel_rfl) (fun _ _ _ h=>h) (Or.inl ⟨by rfl,?_⟩) hHeld ?_
  ·intro w' hSw;clear hSw;go_simp
  simp only[Act.put,Sz0,Sz1,Sz2];refine wpAnyH_done (by kernel_rfl) ?_ _;refine NoPanic.normal ?_;have hB2:=HIV.out.b2.kp KV2.out (fun x=>x);have z2:v2.cell? ⟨w.heap.size+2,0,none⟩=some (.int .i64 (j:Nat)):=hB2.cell rfl;have f2:v2.frozen? ⟨w.heap.size+2,0,none⟩=false:=hB2.froz 0;obtain⟨v3,hv3⟩:∃v3,v2.setCell ⟨w.heap.size+2,0,none⟩ (.int .i64 ((j:Int)+1))=v3:=⟨_,rfl⟩;have HV3:Hid (v2.setCell ⟨w.heap.size+2,0,none⟩ (.int .i64 ((j:Int)+1))=v3):=hv3;have hk3:Kp v2 v3 (fun i=>i=w.heap.size+2):=by rw[<- hv3];exact(Kp.refl v2 (fun i=>i=w.heap.size+2)).setCell _ _ (.inr rfl)
  have HI3:Hid (AlI w r (j+1) Z v3):=by
   refine⟨(HIV.out.b0.kp KV2.out (fun x=>x)).kp hk3 (fun e=>by have e':w.heap.size=w.heap.size+2:=e;omega),(HIV.out.b1.kp KV2.out (fun x=>x)).kp hk3 (fun e=>by have e':w.heap.size+1=w.heap.size+2:=e;omega),?_,HIV.out.z,(HIV.out.kp.trans KV2.out).trans' hk3 (fun i hi e=>by have e':i=w.heap.size+2:=e;omega)⟩;rw[<- hv3];exact hB2.set 0 _
  have HKV3:Hid (Kp V v3 (fun i=>(Z i∨wtQ ((((c,s),a),sl),fp) i)∨W.heap.size<=i)):=(KV2.out.of_nul).trans (hk3.mono (fun i _ e=>.inl (.inl ((HIV.out.z i).2 e))));clear hk3 hB2 hv3
  gi_wp2_with (first|(rw[HV3.out])|fail)
  first
  | exact .inl ⟨rfl,HKV3.out,Z,HI3.out,fun i hi=>.inl hi⟩
  | exact⟨HKV3.out,Z,HI3.out,fun i hi=>.inl hi⟩
 case hdone=>
  subst hact;intro D Z W hD hI hdef;have HDf:Hid (W.heap[D]? = some (.deferred (some []))):=hdef;have HIe:Hid (AlI w r Kd.length Z W):=hI;have HDD:Hid (w6.heap.size=D/\w.heap.size+3<=w6.heap.size):=⟨hD.symm,hs6⟩;have HS:Hid (∀wq,Kp W wq (fun i=>i=w.heap.size+1)->Kp w wq Nul):=fun wq k=>hI.kp.trans' k (fun i hi e=>by have e':i=w.heap.size+1:=e;omega)
  have HVE:Hid (∀wq,Kp W wq (fun i=>i=w.heap.size+1)->wq.cell? ⟨w.heap.size+2,0,none⟩=some (.int .i64 (n:Nat))/\wq.cell? ⟨w.heap.size,0,none⟩=some (.pointer (some ⟨r,0,none⟩))/\wq.cell? ⟨r,0,none⟩=some (.slice pp n cp)):=fun wq k=>by
   have h2:=(hI.b2.kp k (fun e=>by have e':w.heap.size+2=w.heap.size+1:=e;omega)).cell (i:=0) rfl;rw[HN.out.2.1] at h2;exact⟨h2,(hI.b0.kp k (fun e=>by have e':w.heap.size=w.heap.size+1:=e;omega)).cell rfl,HR0.out wq (HS.out wq k)⟩
  have y1:W.drew.cell? ⟨w.heap.size+1,0,none⟩=some (.bool false):=hI.b1.drew.cell rfl;have f1:W.drew.frozen? ⟨w.heap.size+1,0,none⟩=false:=hI.b1.drew.froz 0;clear hI hdef hD HI0 hgA k6 hnf;go_wp2_with fail;refine wp_region_noPanic ?_;refine F5 (fun w':World=>Kp W w' (fun i=>i=w.heap.size+1)) (by kernel_rfl) ((Kp.refl W _).drew) (fun hHeld=>?_);refine j3 (i:=0) (v:=.int .i64 (n:Nat)) (some 62) rfl rfl (by kernel_rfl) (fun _ _ _ h=>h) (Or.inl ⟨by rfl,?_⟩) hHeld ?_
  ·intro w' hSw;have s0:=(HVE.out w' hSw).1;clear hSw;go_simp
  simp only[Act.put,Sz0,Sz1,Sz2];refine j3 (i:=1) (v:=.pointer (some ⟨r,0,none⟩)) (some 63) rfl rfl (by kernel_rfl) (fun _ _ _ h=>h) (Or.inl ⟨by rfl,?_⟩) hHeld ?_
  ·intro w' hSw;have s0:=(HVE.out w' hSw).2.1;clear hSw;go_simp
  simp only[Act.put,Sz0,Sz1,Sz2];refine j3 (i:=2) (v:=.pointer (some ⟨r,0,none⟩)) (some 64) rfl rfl (by kernel_rfl) (fun _ _ _ h=>h) (Or.inl ⟨by rfl,?_⟩) hHeld ?_
  ·intro w' hSw;clear hSw;go_simp
  simp only[Act.put,Sz0,Sz1,Sz2];refine j3 (i:=3) (v:=.pointer (some ⟨r,0,none⟩)) (some 65) rfl rfl (by kernel_rfl) (fun _ _ _ h=>h) (Or.inl ⟨by rfl,?_⟩) hHeld ?_
  ·intro w' hSw;clear hSw;go_simp
  simp only[Act.put,Sz0,Sz1,Sz2];refine j3 (i:=4) (v:=.slice pp n cp) (some 66) rfl rfl (by kernel_rfl) (fun _ _ _ h=>h) (Or.inl ⟨by rfl,?_⟩) hHeld ?_
  ·intro w' hSw;have s0:=(HVE.out w' hSw).2.2;clear hSw;go_simp
  simp only[Act.put,Sz0,Sz1,Sz2];refine j3 (i:=5) (v:=.int .i64 (n:Nat)) (some 67) rfl rfl (by kernel_rfl) (fun _ _ _ h=>h) (Or.inl ⟨by rfl,?_⟩) hHeld ?_
  ·intro w' hSw;clear hSw;go_simp
  simp only[Act.put,Sz0,Sz1,Sz2];refine j3 (i:=6) (v:=.bool true) (some 68) rfl rfl (by kernel_rfl) (fun _ _ _ h=>h) (Or.inl ⟨by rfl,?_⟩) hHeld ?_
  ·intro w' hSw;clear hSw;go_simp
  simp only[Act.put,Sz0,Sz1,Sz2];refine D9 (i:=7) (by kernel_rfl) rfl rfl (fun K hK=>?_);go_simp;refine hK.out _ _ (((Kp.refl W (fun i=>i=w.heap.size+1)).setCell ⟨w.heap.size+1,0,none⟩ (.bool true) (.inr rfl)).drew) (fun hHeld=>?_);clear hK K;refine wpAnyH_done (by kernel_rfl) ?_ _;refine NoPanic.normal ?_;have hX2:(W.setCell ⟨w.heap.size+1,0,none⟩ (.bool true)).drew.heap[D]? = some (.deferred (some [])):=(heap_setCell_other _ _ _ _ (by show D≠w.heap.size+1;have:=HDD.out;omega)).trans HDf.out;have hB2:Blk (W.setCell ⟨w.heap.size+1,0,none⟩ (.bool true)).drew (w.heap.size+1) [.bool true] 4:=(HIe.out.b1.set 0 (.bool true)).drew;clear y1 f1;go_wp2_with fail;refine⟨by simp,.inl ⟨_,_,rfl,run_takeDeferred hX2,?_⟩⟩;refine⟨_,j1U rfl rfl (hB2.kp J8 (by show ¬w.heap.size+1=D;have:=HDD.out;omega)),rfl,?_⟩;exact j0i ((HIe.out.kp.setCell ⟨w.heap.size+1,0,none⟩ (.bool true) (.inl (by show w.heap.size<=w.heap.size+1;omega))).drew) (by have:=HDD.out;omega)
 case hstop=>
  rintro D W hD h hdef;exact h.elim
end
end Go.Proofs.YtnceajanlnnfoaaGreatDoor
