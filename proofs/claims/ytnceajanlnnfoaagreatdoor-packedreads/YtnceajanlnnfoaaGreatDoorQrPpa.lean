/-Packed, the document's bytes: double, text, truth, value (quadrilleref. -/
import Derived.Test.YtnceajanlnnfoaaGreatDoorQrPoa
import Derived.Test.YtnceajanlnnfoaaGreatDoorQrPkl
import Derived.Deep.CutBlock
import Derived.Deep.DeepCutAuto
set_option maxHeartbeats 32000000
set_option maxRecDepth 20000
namespace Go.Proofs.YtnceajanlnnfoaaGreatDoor
section
open Go.RowKit Go.Shelf
theorem ByF.one {e:TypeId}{W w:World}(hk:Kp W w Nul)(x:Value)(h1:x.oneCell'=true):ByF e W (w.alloc (.cells #[x] e)) (.slice (some ⟨w.heap.size,0,none⟩) 1 1) [x]:=
 ⟨some w.heap.size,.some rfl (heap_alloc_new _ _) (fun i _ hh=>by have:=hh.2;omega) rfl rfl (fun u hu=>by rw[List.mem_singleton.1 hu];exact h1),fun b hb=>(by injection hb with hb;rw[<- hb];exact hk.size),hk.alloc _⟩
theorem L0 {w W:World}{ops:Array Oper}{rest:List Oper}{o:Oper}{a:Act}{Q:Exit->Act->World->Prop}(hgd:o.guard=none)(s x:Operand)(tx:TypeId)(ho:o.op=Op.call { callee:=Callee.builtin Builtin.append,args:=#[s,x],argTypes:=#[70,tx] })
 {v v2:Value} {l k:List UInt8} (hs:a.eval s=v) (hx:a.eval x=v2) (hb:ByF 5 W w v (Lib.byteCells l)) (hsrc:Src Tryz.prog 1 tx v2 (Lib.byteCells k).length (Lib.byteCells k) w) (h47:l.length+k.length<=140737488355328)
 (h:∀v' w',ByF 5 W w' v' (Lib.byteCells (l++k))->wpList Tryz.prog ops Q rest (a.put o.dst v') w'):wpList Tryz.prog ops Q (o::rest) a w:=by
 obtain⟨i8,hi8,hz8,hsz8,hby8⟩:=U6;obtain⟨g,hb1,hb2,hb3⟩:=hb;refine j6o hgd s x 70 tx ho 5 i8 (.int .u8 0) 1 Tryz.underlying70 hi8 hz8 hsz8 hby8 rfl hs hx hb1 hsrc (by rw[Lib.byteCells_length,Lib.byteCells_length];omega) (by rw[Lib.byteCells_length,Lib.byteCells_length];omega) ?_;intro v' g' w' hb' hap;refine h v' w' ?_;rw[j0z];exact ByF.ap hb3 hb2 hb' hap
theorem U0 (x:UInt8)(w:World):Src Tryz.prog 1 70 (.slice (some ⟨w.heap.size,0,none⟩) 1 1) (Lib.byteCells [x]).length (Lib.byteCells [x]) (w.alloc (.cells #[.int .u8 (x.toNat:Nat)] 5)):=j6I Tryz.underlying70 _ rfl w
theorem ByF.src {W w:World}{v:Value}{l:List UInt8}(h:ByF 5 W w v (Lib.byteCells l)):Src Tryz.prog 1 70 v (Lib.byteCells l).length (Lib.byteCells l) w:=by
 obtain⟨g,h1,_,_⟩:=h;exact h1.src Tryz.underlying70
theorem jED (s:ByteArray)(w:World):Src Tryz.prog 1 9 (.string s) (Lib.byteCells s.data.toList).length (Lib.byteCells s.data.toList) w:=by
 have:=jEC (P:=Tryz.prog) Tryz.underlying9 s.data.toList w;exact this
theorem j5U (x:Nat)(hx:x<18446744073709551616)(w:World):
 Calls Tryz.prog 74 #[.float .f64 x] w fun e w'=>∃v,e=.returned v/\ByF 5 w w' v (Lib.byteCells (le 8 (one x))):=by
 have HO:Hid (∀w,Calls Tryz.prog 48 #[.int .u64 (x:Nat)] w fun e w'=>e=.returned (.int .u64 (one x:Nat))/\w'=w):=fun w=>by
  have:=j5h (x:Int) (by show (0:Int)<=(x:Int);omega) (by show (x:Int)<18446744073709551616;omega) w;rw[Int.toNat_natCast] at this;exact this
 have HNu:Hid (∀w,Calls Tryz.prog 35 #[.int .u64 (one x:Nat),.int .i64 8] w fun e w'=>∃v,e=.returned v/\ByF 5 w w' v (Lib.byteCells (le 8 (one x)))):=fun w=>V3 (one x) 8 (j09 x hx) (by decide) w
 obtain⟨q,hq⟩:∃q,one x=q:=⟨_,rfl⟩;rw[hq] at HO HNu ⊢;clear hx hq;go_enter Tryz.func74,Tryz.ntmps74;go_wp2_with fail;refine(HO.out _).mono ?_;rintro e w1 ⟨rfl,hz⟩;replace hz:=hz.symm;subst hz;go_wp2_with fail;refine(HNu.out _).mono ?_;rintro e w2 ⟨v2,rfl,h2⟩;have H2:Hid (ByF 5 w w2 v2 (Lib.byteCells (le 8 q))):=h2;clear h2;go_wp2_with fail;go_ret;exact⟨_,rfl,H2.out⟩
theorem j2y (s:ByteArray)(hs:s.size<65536)(w:World):
 Calls Tryz.prog 75 #[.string s] w fun e w'=>∃v,e=.returned v/\ByF 5 w w' v (Lib.byteCells (txtB s)):=by
 have hcv:=Q6 s.size (by omega);have HNu:Hid (∀w,Calls Tryz.prog 35 #[.int .u64 (s.size:Nat),.int .i64 2] w fun e w'=>∃v,e=.returned v/\ByF 5 w w' v (Lib.byteCells (le 2 s.size))):=fun w=>V3 s.size 2 (by omega) (by decide) w
 have HL:Hid ((le 2 s.size).length+s.data.toList.length<=140737488355328):=by
  show _<=_;rw[D8,Array.length_toList];have:s.data.size=s.size:=rfl;omega
 clear hs;go_enter Tryz.func75,Tryz.ntmps75;go_wp2_with fail;refine(HNu.out _).mono ?_;rintro e w2 ⟨v2,rfl,h2⟩;have H2:Hid (ByF 5 w w2 v2 (Lib.byteCells (le 2 s.size))):=h2;clear h2 hcv;go_wp2_with (at_builtin;refine L0 rfl (.tmp 6) (.tmp 7) 9 rfl rfl rfl H2.out (jED s _) HL.out ?_);intro v' w' hb;have H3:Hid (ByF 5 w w' v' (Lib.byteCells (txtB s))):=hb;clear hb;go_wp2_with fail;go_ret;exact⟨_,rfl,H3.out⟩
theorem j1a (b:Bool)(w:World):Calls Tryz.prog 76 #[.bool b] w fun e w'=>e=.returned (.int .u8 ((tb b).toNat:Nat))/\w'=w:=by
 cases b
 all_goals
  go_enter Tryz.func76,Tryz.ntmps76;go_wp2;go_ret;exact⟨rfl,rfl⟩
theorem V5 (n:Int)(h0:0<=n)(w:World):(convert 3 5 (.int .i64 n)).run Tryz.prog w=.ok (.int .u8 ((UInt8.ofNat n.toNat).toNat:Nat)) w:=by
 have e:((UInt8.ofNat n.toNat).toNat:Int)=n%256:=by rw[UInt8.toNat_ofNat'];omega
 rw[e];simp[go_sem,convert,run_underlying Tryz.underlying3,run_underlying Tryz.underlying5,IntKind.wrap,IntKind.signed]
theorem ByF.is24 {e:TypeId}{W w:World}{v:Value}{xs:List Value}(h:ByF e W w v xs):Kp W w Nul:=by
 obtain⟨_,_,_,k⟩:=h;exact k
theorem jDh (v:Vl)(w:World)(hv:KnV v):
 Calls Tryz.prog 36 #[v.val] w fun e w'=>∃v',e=.returned v'/\ByF 5 w w' v' (Lib.byteCells (vlB v)):=by
 obtain⟨k,x,s,t,f⟩:=v;obtain⟨⟨hk0,hk1⟩,⟨hx,hx1⟩,hs,⟨hf0,_⟩⟩:=hv;simp only at hk0 hk1 hx hx1 hs hf0;obtain⟨W,hW⟩:∃W,w.alloc (.cells #[.int .i64 k,.float .f64 x,.string s,.bool t,.int .i64 f] 59)=W:=⟨_,rfl⟩;have HW:Hid (w.alloc (.cells #[.int .i64 k,.float .f64 x,.string s,.bool t,.int .i64 f] 59)=W):=hW;have kW:Kp w W Nul:=by rw[<- hW];exact(Kp.refl w Nul).alloc _
 have sW:W.heap.size=w.heap.size+1:=by rw[<- hW,World.size_alloc]
 have bW:Blk W w.heap.size [.int .i64 k,.float .f64 x,.string s,.bool t,.int .i64 f] 59:=by rw[<- hW];exact Blk.new w _ _
 obtain⟨kb,hkb⟩:∃kb,UInt8.ofNat k.toNat=kb:=⟨_,rfl⟩;have hck:=V5 k (by omega);rw[hkb] at hck;have hcf:=V5 f hf0;obtain⟨W2,hW2⟩:∃W2,W.alloc (.cells #[.int .u8 (kb.toNat:Nat)] 5)=W2:=⟨_,rfl⟩;have HW2:Hid (W.alloc (.cells #[.int .u8 (kb.toNat:Nat)] 5)=W2):=hW2;have HO:Hid (ByF 5 w W2 (.slice (some ⟨w.heap.size+1,0,none⟩) 1 1) (Lib.byteCells [kb])):=by
  show ByF _ _ _ _ _;rw[<- hW2,<- sW];exact ByF.one kW _ rfl
 have b2:Blk W2 w.heap.size [.int .i64 k,.float .f64 x,.string s,.bool t,.int .i64 f] 59:=by rw[<- hW2];exact bW.alloc _
 have c0:W.cell? ⟨w.heap.size,0,none⟩=some (.int .i64 k):=bW.cell rfl;have d0:W2.cell? ⟨w.heap.size,0,none⟩=some (.int .i64 k):=b2.cell rfl;have d1:W2.cell? ⟨w.heap.size,1,none⟩=some (.float .f64 x):=b2.cell rfl;have d2:W2.cell? ⟨w.heap.size,2,none⟩=some (.string s):=b2.cell rfl;have d3:W2.cell? ⟨w.heap.size,3,none⟩=some (.bool t):=b2.cell rfl;have d4:W2.cell? ⟨w.heap.size,4,none⟩=some (.int .i64 f):=b2.cell rfl;clear hW hW2 kW bW b2;have hcase:k=1∨k=2∨k=3∨k=4:=by omega
 clear hk0 hk1;rcases hcase with rfl|rfl|rfl|rfl
 ·have HD:Hid (∀w,Calls Tryz.prog 74 #[.float .f64 x] w fun e w'=>∃v,e=.returned v/\ByF 5 w w' v (Lib.byteCells (le 8 x))):=fun w=>by
   have:=j5U x hx w;rw[hx1] at this;exact this
  have HL:Hid ([kb].length+(le 8 x).length<=140737488355328):=by show _<=_;rw[D8];simp
  have eB:vlB ⟨1,x,s,t,f⟩=[kb]++le 8 x:=by rw[<- hkb];rfl
  rw[eB];clear eB hx1 hx hs hf0 hcf;go_enter Tryz.func36,Tryz.ntmps36;go_wp2_with (first|(rw[HW.out])|(rw[HW2.out])|fail);refine(HD.out _).mono ?_;rintro e w3 ⟨v3,rfl,h3⟩;have H3:Hid (ByF 5 W2 w3 v3 (Lib.byteCells (le 8 x))):=h3;have HO3:Hid (ByF 5 w w3 (.slice (some ⟨w.heap.size+1,0,none⟩) 1 1) (Lib.byteCells [kb])):=HO.out.kp h3.is24;clear h3;go_wp2_with (at_builtin;refine L0 rfl (.tmp 12) (.tmp 15) 70 rfl rfl rfl HO3.out H3.out.src HL.out ?_);intro v' w' hb;have HE:Hid (ByF 5 w w' v' (Lib.byteCells ([kb]++le 8 x))):=hb;clear hb;go_wp2_with fail;go_ret;exact⟨_,rfl,HE.out⟩
 ·have HD:Hid (∀w,Calls Tryz.prog 75 #[.string s] w fun e w'=>∃v,e=.returned v/\ByF 5 w w' v (Lib.byteCells (txtB s))):=fun w=>j2y s hs w
  have HL:Hid ([kb].length+(txtB s).length<=140737488355328):=by
   show _<=_;unfold txtB;rw[List.length_append,D8,Array.length_toList];have:s.data.size=s.size:=rfl;simp;omega
  have eB:vlB ⟨2,x,s,t,f⟩=[kb]++txtB s:=by rw[<- hkb];rfl
  rw[eB];clear eB hx1 hx hs hf0 hcf;go_enter Tryz.func36,Tryz.ntmps36;go_wp2_with (first|(rw[HW.out])|(rw[HW2.out])|fail);refine(HD.out _).mono ?_;rintro e w3 ⟨v3,rfl,h3⟩;have H3:Hid (ByF 5 W2 w3 v3 (Lib.byteCells (txtB s))):=h3;have HO3:Hid (ByF 5 w w3 (.slice (some ⟨w.heap.size+1,0,none⟩) 1 1) (Lib.byteCells [kb])):=HO.out.kp h3.is24;clear h3;go_wp2_with (at_builtin;refine L0 rfl (.tmp 19) (.tmp 22) 70 rfl rfl rfl HO3.out H3.out.src HL.out ?_);intro v' w' hb;have HE:Hid (ByF 5 w w' v' (Lib.byteCells ([kb]++txtB s))):=hb;clear hb;go_wp2_with fail;go_ret;exact⟨_,rfl,HE.out⟩
 ·have HD:Hid (∀w,Calls Tryz.prog 76 #[.bool t] w fun e w'=>e=.returned (.int .u8 ((tb t).toNat:Nat))/\w'=w):=fun w=>j1a t w
  have HL:Hid ([kb].length+[tb t].length<=140737488355328):=by show _<=_;simp
  have eB:vlB ⟨3,x,s,t,f⟩=[kb]++[tb t]:=by rw[<- hkb];rfl
  rw[eB];obtain⟨tt,htt⟩:∃tt,tb t=tt:=⟨_,rfl⟩;rw[htt] at HD HL ⊢;clear eB hx1 hx hs hf0 hcf htt;go_enter Tryz.func36,Tryz.ntmps36;go_wp2_with (first|(rw[HW.out])|(rw[HW2.out])|fail);refine(HD.out _).mono ?_;rintro e w3 ⟨rfl,hz⟩;replace hz:=hz.symm;subst hz;go_wp2_with (at_builtin;refine L0 rfl (.tmp 26) (.tmp 30) 70 rfl rfl rfl (HO.out.kp ((Kp.refl W2 Nul).alloc _)) (U0 tt W2) HL.out ?_);intro v' w' hb;have HE:Hid (ByF 5 w w' v' (Lib.byteCells ([kb]++[tt]))):=hb;clear hb;go_wp2_with fail;go_ret;exact⟨_,rfl,HE.out⟩
 ·have HL:Hid ([kb].length+[UInt8.ofNat f.toNat].length<=140737488355328):=by show _<=_;simp
  have eB:vlB ⟨4,x,s,t,f⟩=[kb]++[UInt8.ofNat f.toNat]:=by rw[<- hkb];rfl
  rw[eB];obtain⟨tt,htt⟩:∃tt,UInt8.ofNat f.toNat=tt:=⟨_,rfl⟩;rw[htt] at HL hcf ⊢;clear eB hx1 hx hs hf0 htt;go_enter Tryz.func36,Tryz.ntmps36;go_wp2_with (first|(rw[HW.out])|(rw[HW2.out])|(at_builtin;refine L0 rfl (.tmp 34) (.tmp 38) 70 rfl rfl rfl (HO.out.kp ((Kp.refl W2 Nul).alloc _)) (U0 tt W2) HL.out ?_)|fail);intro v' w' hb;have HE:Hid (ByF 5 w w' v' (Lib.byteCells ([kb]++[tt]))):=hb;clear hb;go_wp2_with fail;go_ret;exact⟨_,rfl,HE.out⟩
theorem ByF.base {e:TypeId}{W W1 w:World}{v:Value}{xs:List Value}(h:ByF e W1 w v xs)(k:Kp W W1 Nul):ByF e W w v xs:=by
 obtain⟨g,h1,h2,h3⟩:=h;exact⟨g,h1,fun b hb=>Nat.le_trans k.size (h2 b hb),k.trans h3⟩
theorem Z7 {w W:World}{o:Oper}{a:Act}{K:Act->World->Prop}{Q:Exit->Act->World->Prop}(s x:Operand)(tx:TypeId)(ho:o.op=Op.call { callee:=Callee.builtin Builtin.append,args:=#[s,x],argTypes:=#[70,tx] })
 {v v2:Value} {l k:List UInt8} (hs:a.eval s=v) (hx:a.eval x=v2) (hb:ByF 5 W w v (Lib.byteCells l)) (hsrc:Src Tryz.prog 1 tx v2 (Lib.byteCells k).length (Lib.byteCells k) w) (h47:l.length+k.length<=140737488355328)
 (h:∀v' w',ByF 5 W w' v' (Lib.byteCells (l++k))->K (a.put o.dst v') w'):o.wp Tryz.prog a w K Q:=by
 obtain⟨i8,hi8,hz8,hsz8,hby8⟩:=U6;obtain⟨g,hb1,hb2,hb3⟩:=hb;obtain⟨v',g',w',hr,h1,h2⟩:=j1b 70 tx o.type 5 i8 (.int .u8 0) 1 Tryz.underlying70 hi8 hz8 hsz8 hby8 rfl hb1 hsrc (by rw[Lib.byteCells_length,Lib.byteCells_length];omega) (by rw[Lib.byteCells_length,Lib.byteCells_length];omega);unfold Oper.wp execOp;simp only[ho,resolve,invoke,builtin,Sem.run_bind,Sem.run_pure,Result.andThen_ok,List.map_toArray,List.map_cons,List.map_nil,hs,hx,hr];refine h v' w' ?_;rw[j0z];exact ByF.ap hb3 hb2 h1 h2
theorem j2w (c r:Nat)(p q:Bool)(w:World)(hc:c<65536)(hr:r<65536):
 Calls Tryz.prog 77 #[.agg #[.int .i64 (c:Nat),.int .i64 (r:Nat),.bool p,.bool q]] w fun e w'=>∃v',e=.returned v'/\ByF 5 w w' v' (Lib.byteCells (refB c r p q)):=by
 obtain⟨W,hW⟩:∃W,w.alloc (.cells #[.int .i64 (c:Nat),.int .i64 (r:Nat),.bool p,.bool q] 61)=W:=⟨_,rfl⟩;have HW:Hid (w.alloc (.cells #[.int .i64 (c:Nat),.int .i64 (r:Nat),.bool p,.bool q] 61)=W):=hW;have HKW:Hid (Kp w W Nul):=by show Kp _ _ _;rw[<- hW];exact(Kp.refl w Nul).alloc _
 have HC:Hid (∀wq,Kp W wq Nul->wq.cell? ⟨w.heap.size,0,none⟩=some (.int .i64 (c:Nat))/\wq.cell? ⟨w.heap.size,1,none⟩=some (.int .i64 (r:Nat))/\wq.cell? ⟨w.heap.size,2,none⟩=some (.bool p)/\wq.cell? ⟨w.heap.size,3,none⟩=some (.bool q)):=fun wq k=>by
  have:Blk W w.heap.size [.int .i64 (c:Nat),.int .i64 (r:Nat),.bool p,.bool q] 61:=by rw[<- hW];exact Blk.new w _ _
  have b:=this.kp k (fun x=>x);exact⟨b.cell rfl,b.cell rfl,b.cell rfl,b.cell rfl⟩
 have HVc:Hid (∀w,(convert 3 80 (.int .i64 (c:Nat))).run Tryz.prog w=.ok (.int .u64 (c:Nat)) w):=Q6 c (by omega);have HVr:Hid (∀w,(convert 3 80 (.int .i64 (r:Nat))).run Tryz.prog w=.ok (.int .u64 (r:Nat)) w):=Q6 r (by omega);have HNc:Hid (∀w,Calls Tryz.prog 35 #[.int .u64 (c:Nat),.int .i64 2] w fun e w'=>∃v,e=.returned v/\ByF 5 w w' v (Lib.byteCells (le 2 c))):=fun w=>V3 c 2 (by omega) (by decide) w
 have HNr:Hid (∀w,Calls Tryz.prog 35 #[.int .u64 (r:Nat),.int .i64 2] w fun e w'=>∃v,e=.returned v/\ByF 5 w w' v (Lib.byteCells (le 2 r))):=fun w=>V3 r 2 (by omega) (by decide) w
 obtain⟨y,hy⟩:∃y,UInt8.ofNat ((if p then 1 else 0)+(if q then 2 else 0))=y:=⟨_,rfl⟩;have hB:refB c r p q=(le 2 c++le 2 r)++[y]:=by unfold refB;rw[hy,List.append_assoc]
 obtain⟨tp,htp⟩:∃tp:Int,(((tb p).toNat:Nat):Int)=tp:=⟨_,rfl⟩;obtain⟨tq,htq⟩:∃tq:Int,(((tb q).toNat:Nat):Int)=tq:=⟨_,rfl⟩;obtain⟨mq,hmq⟩:∃mq:Int,IntKind.u8.wrap (2*tq)=mq:=⟨_,rfl⟩;have HTp:Hid (∀w,Calls Tryz.prog 76 #[.bool p] w fun e w'=>e=.returned (.int .u8 tp)/\w'=w):=fun w=>by rw[<- htp];exact j1a p w
 have HTq:Hid (∀w,Calls Tryz.prog 76 #[.bool q] w fun e w'=>e=.returned (.int .u8 tq)/\w'=w):=fun w=>by rw[<- htq];exact j1a q w
 have HM:Hid (IntKind.u8.wrap (2*tq)=mq):=hmq;have HA:Hid (IntKind.u8.wrap (tp+mq)=((y.toNat:Nat):Int)):=by
  show _=_;rw[<- hmq,<- htp,<- htq,<- hy];cases p <;> cases q <;> decide
 have HL1:Hid ((le 2 c).length+(le 2 r).length<=140737488355328):=by show _<=_;rw[D8,D8];omega
 have HL2:Hid ((le 2 c++le 2 r).length+[y].length<=140737488355328):=by show _<=_;rw[List.length_append,D8,D8];simp
 rw[hB];clear hW hc hr hy hB htp htq hmq;go_enter Tryz.func77,Tryz.ntmps77;go_wp2_with (first|(rw[HW.out])|fail);refine wp_region_noPanic ?_;refine F5 (fun w':World=>Kp W w' Nul) (by kernel_rfl) ((Kp.refl W Nul).drew) (fun hHeld=>?_);refine j3 (i:=0) (v:=.pointer (some ⟨w.heap.size,0,none⟩)) (some 4) rfl rfl (by kernel_rfl) (fun _ _ _ h=>h) (Or.inl ⟨by rfl,?_⟩) hHeld ?_
 ·intro w' hSw;clear hSw;go_simp
 simp only[Act.put,Sz0,Sz1,Sz2];refine j3 (i:=1) (v:=.pointer (some ⟨w.heap.size,0,none⟩)) (some 5) rfl rfl (by kernel_rfl) (fun _ _ _ h=>h) (Or.inl ⟨by rfl,?_⟩) hHeld ?_
 ·intro w' hSw;clear hSw;go_simp
 simp only[Act.put,Sz0,Sz1,Sz2];refine j3 (i:=2) (v:=.int .i64 (c:Nat)) (some 6) rfl rfl (by kernel_rfl) (fun _ _ _ h=>h) (Or.inl ⟨by rfl,?_⟩) hHeld ?_
 ·intro w' hSw;have s0:=(HC.out w' hSw).1;clear hSw;go_simp
 simp only[Act.put,Sz0,Sz1,Sz2];refine j3 (i:=3) (v:=.int .u64 (c:Nat)) (some 7) rfl rfl (by kernel_rfl) (fun _ _ _ h=>h) (Or.inl ⟨by rfl,?_⟩) hHeld ?_
 ·intro w' hSw;have s0:=HVc.out;clear hSw;go_simp
 simp only[Act.put,Sz0,Sz1,Sz2];refine j3 (i:=5) (v:=.pointer (some ⟨w.heap.size,0,none⟩)) (some 9) rfl rfl (by kernel_rfl) (fun _ _ _ h=>h) (Or.inl ⟨by rfl,?_⟩) hHeld ?_
 ·intro w' hSw;clear hSw;go_simp
 simp only[Act.put,Sz0,Sz1,Sz2];refine j3 (i:=6) (v:=.pointer (some ⟨w.heap.size,1,none⟩)) (some 10) rfl rfl (by kernel_rfl) (fun _ _ _ h=>h) (Or.inl ⟨by rfl,?_⟩) hHeld ?_
 ·intro w' hSw;clear hSw;go_simp
 simp only[Act.put,Sz0,Sz1,Sz2];refine j3 (i:=7) (v:=.int .i64 (r:Nat)) (some 11) rfl rfl (by kernel_rfl) (fun _ _ _ h=>h) (Or.inl ⟨by rfl,?_⟩) hHeld ?_
 ·intro w' hSw;have s0:=(HC.out w' hSw).2.1;clear hSw;go_simp
 simp only[Act.put,Sz0,Sz1,Sz2];refine j3 (i:=8) (v:=.int .u64 (r:Nat)) (some 12) rfl rfl (by kernel_rfl) (fun _ _ _ h=>h) (Or.inl ⟨by rfl,?_⟩) hHeld ?_
 ·intro w' hSw;have s0:=HVr.out;clear hSw;go_simp
 simp only[Act.put,Sz0,Sz1,Sz2];refine D9 (i:=4) (by kernel_rfl) rfl rfl (fun K hK=>?_);go_simp;refine(HNc.out _).mono ?_;rintro e w3 ⟨v3,rfl,h3⟩;have B3:Hid (ByF 5 W w3 v3 (Lib.byteCells (le 2 c))):=h3.base ((Kp.refl W Nul).drew);refine hK.out _ _ B3.out.is24 (fun hHeld=>?_);clear hK K h3
 (try simp only[Act.put,Sz0,Sz1,Sz2])
 refine D9 (i:=9) (by kernel_rfl) rfl rfl (fun K hK=>?_);go_simp;refine(HNr.out _).mono ?_;rintro e w4 ⟨v4,rfl,h4⟩;have B4:Hid (ByF 5 w3 w4 v4 (Lib.byteCells (le 2 r))):=h4;have B3':Hid (ByF 5 W w4 v3 (Lib.byteCells (le 2 c))):=B3.out.kp h4.is24;refine hK.out _ _ B3'.out.is24 (fun hHeld=>?_);clear hK K h4 B3
 (try simp only[Act.put,Sz0,Sz1,Sz2])
 refine D9 (i:=10) (by kernel_rfl) rfl rfl (fun K hK=>?_);refine Z7 (.tmp 8) (.tmp 13) 70 rfl rfl rfl B3'.out B4.out.src HL1.out ?_;intro v5 w5 h5;have B5:Hid (ByF 5 W w5 v5 (Lib.byteCells (le 2 c++le 2 r))):=h5;refine hK.out _ _ B5.out.is24 (fun hHeld=>?_);clear hK K h5 B3' B4;show wpAnyH _ _ _ _ _ _ _ (Act.put _ (some 14) _) _;simp only[Act.put,Sz0,Sz1,Sz2];refine j3 (i:=11) (v:=v5) (some 3) rfl rfl (by kernel_rfl) (fun _ _ _ h=>h) (Or.inl ⟨by rfl,?_⟩) hHeld ?_
 ·intro w' hSw;clear hSw;go_simp
 simp only[Act.put,Sz0,Sz1,Sz2];refine wpAnyH_done (by kernel_rfl) ?_ _;refine NoPanic.normal ?_;go_wp2_with fail;refine wp_region_noPanic ?_;refine F5 (fun w':World=>Kp W w' Nul) (by kernel_rfl) (B5.out.is24.drew) (fun hHeld=>?_);refine j3 (i:=0) (v:=v5) (some 15) rfl rfl (by kernel_rfl) (fun _ _ _ h=>h) (Or.inl ⟨by rfl,?_⟩) hHeld ?_
 ·intro w' hSw;clear hSw;go_simp
 simp only[Act.put,Sz0,Sz1,Sz2];refine j3 (i:=1) (v:=.pointer (some ⟨w.heap.size,2,none⟩)) (some 16) rfl rfl (by kernel_rfl) (fun _ _ _ h=>h) (Or.inl ⟨by rfl,?_⟩) hHeld ?_
 ·intro w' hSw;clear hSw;go_simp
 simp only[Act.put,Sz0,Sz1,Sz2];refine j3 (i:=2) (v:=.bool p) (some 17) rfl rfl (by kernel_rfl) (fun _ _ _ h=>h) (Or.inl ⟨by rfl,?_⟩) hHeld ?_
 ·intro w' hSw;have s0:=(HC.out w' hSw).2.2.1;clear hSw;go_simp
 simp only[Act.put,Sz0,Sz1,Sz2];refine j3 (i:=4) (v:=.pointer (some ⟨w.heap.size,3,none⟩)) (some 19) rfl rfl (by kernel_rfl) (fun _ _ _ h=>h) (Or.inl ⟨by rfl,?_⟩) hHeld ?_
 ·intro w' hSw;clear hSw;go_simp
 simp only[Act.put,Sz0,Sz1,Sz2];refine j3 (i:=5) (v:=.bool q) (some 20) rfl rfl (by kernel_rfl) (fun _ _ _ h=>h) (Or.inl ⟨by rfl,?_⟩) hHeld ?_
 ·intro w' hSw;have s0:=(HC.out w' hSw).2.2.2;clear hSw;go_simp
 simp only[Act.put,Sz0,Sz1,Sz2];refine D9 (i:=3) (by kernel_rfl) rfl rfl (fun K hK=>?_);go_simp;refine(HTp.out _).mono ?_;rintro e w6 ⟨rfl,hz⟩;replace hz:=hz.symm;subst hz;refine hK.out _ _ B5.out.is24.drew (fun hHeld=>?_);clear hK K
 (try simp only[Act.put,Sz0,Sz1,Sz2])
 refine D9 (i:=6) (by kernel_rfl) rfl rfl (fun K hK=>?_);go_simp;refine(HTq.out _).mono ?_;rintro e w6 ⟨rfl,hz⟩;replace hz:=hz.symm;subst hz;refine hK.out _ _ B5.out.is24.drew (fun hHeld=>?_);clear hK K
 (try simp only[Act.put,Sz0,Sz1,Sz2])
 refine j3 (i:=7) (v:=.int .u8 mq) (some 22) rfl rfl (by kernel_rfl) (fun _ _ _ h=>h) (Or.inl ⟨by rfl,?_⟩) hHeld ?_
 ·intro w' hSw;have s0:=HM.out;clear hSw;go_simp
 simp only[Act.put,Sz0,Sz1,Sz2];refine j3 (i:=8) (v:=.int .u8 (y.toNat:Nat)) (some 23) rfl rfl (by kernel_rfl) (fun _ _ _ h=>h) (Or.inl ⟨by rfl,?_⟩) hHeld ?_
 ·intro w' hSw;have s0:=HA.out;clear hSw;go_simp
 simp only[Act.put,Sz0,Sz1,Sz2];refine D9 (i:=9) (by kernel_rfl) rfl rfl (fun K hK=>?_);go_simp;refine hK.out _ _ (B5.out.is24.drew.alloc _) (fun hHeld=>?_);clear hK K
 (try simp only[Act.put,Sz0,Sz1,Sz2])
 refine D9 (i:=10) (by kernel_rfl) rfl rfl (fun K hK=>?_);refine Z7 (.tmp 15) (.tmp 24) 70 rfl rfl rfl (B5.out.kp ((Kp.refl w5 Nul).drew.alloc _)) (U0 y w5.drew) HL2.out ?_;intro v7 w7 h7;have B7:Hid (ByF 5 W w7 v7 (Lib.byteCells ((le 2 c++le 2 r)++[y]))):=h7;refine hK.out _ _ B7.out.is24 (fun hHeld=>?_);clear hK K h7;show wpAnyH _ _ _ _ _ _ _ (Act.put _ (some 25) _) _;simp only[Act.put,Sz0,Sz1,Sz2];refine j3 (i:=11) (v:=v7) (some 2) rfl rfl (by kernel_rfl) (fun _ _ _ h=>h) (Or.inl ⟨by rfl,?_⟩) hHeld ?_
 ·intro w' hSw;clear hSw;go_simp
 simp only[Act.put,Sz0,Sz1,Sz2];refine wpAnyH_done (by kernel_rfl) ?_ _;refine NoPanic.normal ?_;go_wp2_with fail;go_ret;exact⟨_,rfl,B7.out.base HKW.out⟩
end
section
open Go.RowKit Go.Shelf Go.Sort
theorem By.one {e:TypeId}(w:World)(x:Value)(h1:x.oneCell'=true):By e (w.alloc (.cells #[x] e)) (Option.some w.heap.size) (.slice (Option.some ⟨w.heap.size,0,Option.none⟩) 1 1) [x]:=
 .some rfl (heap_alloc_new _ _) (fun i _ hh=>by have:=hh.2;omega) rfl rfl (fun u hu=>by rw[List.mem_singleton.1 hu];exact h1)
theorem j3G {w W:World}{o:Oper}{a:Act}{K:Act->World->Prop}{Q:Exit->Act->World->Prop}(s x:Operand)(tx:TypeId)(ho:o.op=Op.call { callee:=Callee.builtin Builtin.append,args:=#[s,x],argTypes:=#[70,tx] })
 {v v2:Value} {l k:List UInt8} (hs:a.eval s=v) (hx:a.eval x=v2) (hb:ByF 5 W w v (Lib.byteCells l)) (hsrc:Src Tryz.prog 1 tx v2 (Lib.byteCells k).length (Lib.byteCells k) w) (h47:l.length+k.length<=140737488355328)
 (h:∀v' w',ByF 5 W w' v' (Lib.byteCells (l++k))->Kp w w' (fun b=>∃n c,v=.slice (some ⟨b,0,none⟩) n c)->K (a.put o.dst v') w'):o.wp Tryz.prog a w K Q:=by
 obtain⟨i8,hi8,hz8,hsz8,hby8⟩:=U6;obtain⟨g,hb1,hb2,hb3⟩:=hb;obtain⟨v',g',w',hr,h1,h2⟩:=j1b 70 tx o.type 5 i8 (.int .u8 0) 1 Tryz.underlying70 hi8 hz8 hsz8 hby8 rfl hb1 hsrc (by rw[Lib.byteCells_length,Lib.byteCells_length];omega) (by rw[Lib.byteCells_length,Lib.byteCells_length];omega);unfold Oper.wp execOp;simp only[ho,resolve,invoke,builtin,Sem.run_bind,Sem.run_pure,Result.andThen_ok,List.map_toArray,List.map_cons,List.map_nil,hs,hx,hr];refine h v' w' ?_ ?_
 ·rw[j0z];exact ByF.ap hb3 hb2 h1 h2
 ·refine(Kp.refl w _).trans' h2.kp (fun i hi e=>?_);rcases hb1.form with ⟨_,q,_⟩|⟨b,c,q,q2⟩
  ·rw[q] at e;cases e
  ·rw[q2] at e;injection e with e;rw[<- e];exact⟨_,_,q⟩
theorem jCv (N:Nat):∀(t:Nd) (sl:Value) (F:Nat->Prop) (w:World),t.size<=N->KnN t->NdIn w F sl t->t.size*140000<=140737488355328 ->
 Calls Tryz.prog 37 #[t.hd.val sl] w fun e w'=>∃v,e=.returned v/\ByF 5 w w' v (Lib.byteCells (ndB t)):=by
 induction N with
 | zero=>intro t sl F w h;have:=J3 t;omega
 | succ N ih=>
  intro t sl F w hN hcn hin hl;obtain⟨hd,ts⟩:=t;have HND0:Hid (NdIn w F sl (.mk hd ts)):=hin;rw[NdIn] at hin;obtain⟨a,c,rfl,h2,h3,h4⟩:=hin;rw[KnN] at hcn;obtain⟨hcn,hcl⟩:=hcn;rw[Nd.size] at hN hl;have IH:Hid (∀(t:Nd) (sl:Value) (F:Nat->Prop) (w:World),t.size<=N->KnN t->NdIn w F sl t->t.size*140000<=140737488355328->Calls Tryz.prog 37 #[t.hd.val sl] w fun e w'=>∃v,e=.returned v/\ByF 5 w w' v (Lib.byteCells (ndB t))):=ih;have HCL:Hid (KnL ts):=hcl;have HL:Hid ((1+j5 ts)*140000<=140737488355328):=hl;have HNN:Hid (1+j5 ts<=N+1):=hN;obtain⟨n,hn⟩:∃n,ts.length=n:=⟨_,rfl⟩;have HN:Hid (ts.length=n):=hn;have HFL:Hid ((fldB hd n).length<=65544):=by show _<=_;rw[<- hn];exact j2F hcn
  obtain⟨kb,hkb⟩:∃kb,UInt8.ofNat hd.k.toNat=kb:=⟨_,rfl⟩;have HEB:Hid (ndB (.mk hd ts)=[kb]++fldB hd n++ndsB ts):=by show _=_;rw[ndB,hkb,hn];simp
  have HLK:Hid (∀i (hi:i<ts.length) (w':World),Kp w w' Nul->∃bb o,a=some ⟨bb,o,none⟩/\∃sl,w'.rangeAt bb (o+i*15) ((ts[i]).hd.cells sl)/\sl.oneCell'=true/\∀wq,Kp w' wq Nul->Calls Tryz.prog 37 #[(ts[i]).hd.val sl] wq fun e w'=>∃v,e=.returned v/\ByF 5 wq w' v (Lib.byteCells (ndB ts[i]))):=fun i hi w' k=>by
   have hn:=HND0.out.kp k (fun _ _ x=>x);rw[NdIn] at hn;obtain⟨a2,c2,e1,_,_,h4⟩:=hn;injection e1 with e1 e2 e3;subst e1;rcases h4 with ⟨h5,_⟩|⟨bb,o,rfl,hF,hns⟩
   ·rw[h5] at hi;simp at hi
   ·obtain⟨sl,hr,hni⟩:=hns.get i hi;refine⟨bb,o,rfl,sl,hr,hni.one,fun wq hq=>?_⟩;have hs:=O9 ts i hi;exact IH.out ts[i] sl F wq (by have:=HNN.out;omega) (HCL.out.get i hi) (hni.kp hq (fun _ _ x=>x)) (Nat.le_trans (Nat.mul_le_mul_right _ (Nat.le_trans hs (Nat.le_add_left _ _))) HL.out)
  have HBD:Hid (∀i (hi:i<ts.length),([kb]++fldB hd n++ndsB (ts.take i)).length+(ndB ts[i]).length<=140737488355328):=fun i hi=>by
   rw[List.length_append,List.length_append,List.length_singleton];have h1:=HFL.out;have h2:=j1H (ts.take i) (HCL.out.take i);have h3:=j0K ts i hi;have h4:=j0L ts (i+1);have h5:=j2b ts[i] (HCL.out.get i hi);have:=HL.out;omega
  have HTK:Hid (∀(i:Nat) (hi:i<ts.length),ndsB (ts.take (i+1))=ndsB (ts.take i)++ndB ts[i]):=fun i hi=>j4u ts i hi
  have hml:(ts.length:Int)<=9223372036854775806:=by have:=j07 ts;omega
  obtain⟨W,hW⟩:∃W,w.alloc (.cells (hd.cells (.slice a ts.length c)).toArray 64)=W:=⟨_,rfl⟩;have HKW:Hid (Kp w W Nul):=by show Kp _ _ _;rw[<- hW];exact(Kp.refl w Nul).alloc _
  have sW:W.heap.size=w.heap.size+1:=by rw[<- hW,World.size_alloc]
  have hBk:Blk W w.heap.size (hd.cells (.slice a ts.length c)) 64:=by rw[<- hW];exact Blk.new w _ _
  have HBK:Hid (∀wq,Kp W wq Nul->Blk wq w.heap.size (hd.cells (.slice a ts.length c)) 64):=fun wq k=>hBk.kp k (fun x=>x)
  have HW:Hid (w.alloc (.cells (hd.cells (.slice a ts.length c)).toArray 64)=W):=hW;obtain⟨W2,hW2⟩:∃W2,W.alloc (.cells #[.int .u8 (kb.toNat:Nat)] 5)=W2:=⟨_,rfl⟩;have HW2:Hid (W.alloc (.cells #[.int .u8 (kb.toNat:Nat)] 5)=W2):=hW2;have HK2:Hid (Kp W W2 Nul):=by show Kp _ _ _;rw[<- hW2];exact(Kp.refl W Nul).alloc _
  have HSz:Hid (w.heap.size+2=W2.heap.size):=by show _=_;rw[<- hW2,World.size_alloc,sW]
  have HO:Hid (ByF 5 W W2 (.slice (some ⟨w.heap.size+1,0,none⟩) 1 1) (Lib.byteCells ([kb]))):=by
   show ByF _ _ _ _ _;rw[<- hW2,<- sW];exact ByF.one (Kp.refl W Nul) _ rfl
  have hck:=V5 hd.k hcn.k.1;rw[hkb] at hck;have HCN:Hid (Kn hd n):=by show Kn hd n;rw[<- hn];exact hcn
  have hkc:hd.k=0∨hd.k=1∨hd.k=2∨hd.k=3∨hd.k=4∨hd.k=5∨hd.k=6∨hd.k=7∨hd.k=8∨hd.k=9:=by have:=hcn.k;omega
  have HKC:Hid (hd.k=0∨hd.k=1∨hd.k=2∨hd.k=3∨hd.k=4∨hd.k=5∨hd.k=6∨hd.k=7∨hd.k=8∨hd.k=9):=hkc;rw[HEB.out];rw[hn] at hml HW HBK;have c0:W.cell? ⟨w.heap.size,0,none⟩=some (.int .i64 hd.k):=hBk.cell rfl;have d0:W2.cell? ⟨w.heap.size,0,none⟩=some (.int .i64 hd.k):=(HBK.out W2 HK2.out).cell rfl;simp only[Nd.hd];obtain⟨k,o,x,s,b,f,c1,r1,p1,q1,c2,r2,p2,q2⟩:=hd;simp only at c0 d0 hck HKC ⊢;rw[hn];clear ih hN hcl hcn hl h2 h3 h4 hBk hW hW2 hkb hkc hn;go_enter Tryz.func37,Tryz.ntmps37;go_upto_block 0 with (first|(rw[HW.out])|(rw[HW2.out])|fail);go_cut[3] (fun v3 wz=>ByF 5 W wz v3 (Lib.byteCells ([kb]++fldB ⟨k,o,x,s,b,f,c1,r1,p1,q1,c2,r2,p2,q2⟩ n)))
  case first=>
   clear HLK HBD HTK HL IH HND0 HNN HFL HEB hml c0 hck;rcases HKC.out with rfl|rfl|rfl|rfl|rfl|rfl|rfl|rfl|rfl|rfl
   ·have HEF:Hid (fldB ⟨0,o,x,s,b,f,c1,r1,p1,q1,c2,r2,p2,q2⟩ n=[]):=(by show _=_;simp[fldB]);have HE:Hid (ByF 5 W W2 (.slice (some ⟨w.heap.size+1,0,none⟩) 1 1) (Lib.byteCells ([kb]++[]))):=(by show ByF _ _ _ _ _;rw[List.append_nil];exact HO.out);go_wp2_with fail;go_meet
    case rel=>rw[HEF.out];exact HE.out
   ·have HEF:Hid (fldB ⟨1,o,x,s,b,f,c1,r1,p1,q1,c2,r2,p2,q2⟩ n=le 8 x):=(by show _=_;simp[fldB]);have HL:Hid ([kb].length+(le 8 x).length<=140737488355328):=(by show _<=_;rw[D8];simp);have HD:Hid (∀w,Calls Tryz.prog 74 #[.float .f64 x] w fun e w'=>∃v,e=.returned v/\ByF 5 w w' v (Lib.byteCells (le 8 x))):=fun w=>by
     have:=j5U x HCN.out.x.1 w;have hx:=HCN.out.x.2;simp only at hx;rw[hx] at this;exact this
    have d2:W2.cell? ⟨w.heap.size,2,none⟩=some (.float .f64 x):=(HBK.out W2 HK2.out).cell rfl;go_wp2_with fail;refine(HD.out _).mono ?_;rintro e w3 ⟨v3,rfl,h3⟩;have H3:Hid (ByF 5 W2 w3 v3 (Lib.byteCells (le 8 x))):=h3;have HO3:Hid (ByF 5 W w3 (.slice (some ⟨w.heap.size+1,0,none⟩) 1 1) (Lib.byteCells ([kb]))):=HO.out.kp h3.is24;clear h3;go_wp2_with (at_builtin;refine L0 rfl (.tmp 13) (.tmp 16) 70 rfl rfl rfl HO3.out H3.out.src HL.out ?_);intro v' w' hb;have HE:Hid (ByF 5 W w' v' (Lib.byteCells ([kb]++le 8 x))):=hb;clear hb;go_wp2_with fail;go_meet
    case rel=>rw[HEF.out];exact HE.out
   ·have HEF:Hid (fldB ⟨2,o,x,s,b,f,c1,r1,p1,q1,c2,r2,p2,q2⟩ n=txtB s):=(by show _=_;simp[fldB]);have HL:Hid ([kb].length+(txtB s).length<=140737488355328):=(by show _<=_;rw[j0r];have:=HCN.out.s;simp only at this;simp;omega);have HD:Hid (∀w,Calls Tryz.prog 75 #[.string s] w fun e w'=>∃v,e=.returned v/\ByF 5 w w' v (Lib.byteCells (txtB s))):=(fun w=>j2y s HCN.out.s w);have d3:W2.cell? ⟨w.heap.size,3,none⟩=some (.string s):=(HBK.out W2 HK2.out).cell rfl;go_wp2_with fail;refine(HD.out _).mono ?_;rintro e w3 ⟨v3,rfl,h3⟩;have H3:Hid (ByF 5 W2 w3 v3 (Lib.byteCells (txtB s))):=h3;have HO3:Hid (ByF 5 W w3 (.slice (some ⟨w.heap.size+1,0,none⟩) 1 1) (Lib.byteCells ([kb]))):=HO.out.kp h3.is24;clear h3;go_wp2_with (at_builtin;refine L0 rfl (.tmp 20) (.tmp 23) 70 rfl rfl rfl HO3.out H3.out.src HL.out ?_);intro v' w' hb;have HE:Hid (ByF 5 W w' v' (Lib.byteCells ([kb]++txtB s))):=hb
    clear hb;go_wp2_with fail;go_meet
    case rel=>rw[HEF.out];exact HE.out
   ·have HEF:Hid (fldB ⟨3,o,x,s,b,f,c1,r1,p1,q1,c2,r2,p2,q2⟩ n=[tb b]):=(by show _=_;simp[fldB]);have HL:Hid ([kb].length+[tb b].length<=140737488355328):=(by show _<=_;simp);have HD:Hid (∀w,Calls Tryz.prog 76 #[.bool b] w fun e w'=>e=.returned (.int .u8 ((tb b).toNat:Nat))/\w'=w):=(fun w=>j1a b w);have d4:W2.cell? ⟨w.heap.size,4,none⟩=some (.bool b):=(HBK.out W2 HK2.out).cell rfl;obtain⟨tt,htt⟩:∃tt,tb b=tt:=⟨_,rfl⟩;rw[htt] at HD HL HEF;clear htt;go_wp2_with fail;refine(HD.out _).mono ?_;rintro e w3 ⟨rfl,hz⟩;replace hz:=hz.symm;subst hz;go_wp2_with (at_builtin;refine L0 rfl (.tmp 27) (.tmp 31) 70 rfl rfl rfl (HO.out.kp ((Kp.refl W2 Nul).alloc _)) (U0 tt W2) HL.out ?_);intro v' w' hb;have HE:Hid (ByF 5 W w' v' (Lib.byteCells ([kb]++[tt]))):=hb;clear hb;go_wp2_with fail;go_meet
    case rel=>rw[HEF.out];exact HE.out
   ·have HEF:Hid (fldB ⟨4,o,x,s,b,f,c1,r1,p1,q1,c2,r2,p2,q2⟩ n=[UInt8.ofNat f.toNat]):=(by show _=_;simp[fldB]);have HL:Hid ([kb].length+[UInt8.ofNat f.toNat].length<=140737488355328):=(by show _<=_;simp);have d5:W2.cell? ⟨w.heap.size,5,none⟩=some (.int .i64 f):=(HBK.out W2 HK2.out).cell rfl;have hcf:=V5 f HCN.out.f.1;obtain⟨tt,htt⟩:∃tt,UInt8.ofNat f.toNat=tt:=⟨_,rfl⟩;rw[htt] at hcf HL HEF;clear htt;go_wp2_with (at_builtin;refine L0 rfl (.tmp 35) (.tmp 39) 70 rfl rfl rfl (HO.out.kp ((Kp.refl W2 Nul).alloc _)) (U0 tt W2) HL.out ?_);intro v' w' hb;have HE:Hid (ByF 5 W w' v' (Lib.byteCells ([kb]++[tt]))):=hb;clear hb;go_wp2_with fail;go_meet
    case rel=>rw[HEF.out];exact HE.out
   ·have HEF:Hid (fldB ⟨5,o,x,s,b,f,c1,r1,p1,q1,c2,r2,p2,q2⟩ n=refB c1.toNat r1.toNat p1 q1):=(by show _=_;simp[fldB]);have HL:Hid ([kb].length+(refB c1.toNat r1.toNat p1 q1).length<=140737488355328):=(by show _<=_;rw[Y9];simp);have HD:Hid (∀w,Calls Tryz.prog 77 #[.agg #[.int .i64 c1,.int .i64 r1,.bool p1,.bool q1]] w fun e w'=>∃v,e=.returned v/\ByF 5 w w' v (Lib.byteCells (refB c1.toNat r1.toNat p1 q1))):=fun w=>by
     have:=j2w c1.toNat r1.toNat p1 q1 w (by have:=HCN.out.c1;simp only at this;omega) (by have:=HCN.out.r1;simp only at this;omega);rw[Int.toNat_of_nonneg HCN.out.c1.1,Int.toNat_of_nonneg HCN.out.r1.1] at this;exact this
    have d6:W2.cell? ⟨w.heap.size,6,none⟩=some (.int .i64 c1):=(HBK.out W2 HK2.out).cell rfl;have d7:W2.cell? ⟨w.heap.size,7,none⟩=some (.int .i64 r1):=(HBK.out W2 HK2.out).cell rfl;have d8:W2.cell? ⟨w.heap.size,8,none⟩=some (.bool p1):=(HBK.out W2 HK2.out).cell rfl;have d9:W2.cell? ⟨w.heap.size,9,none⟩=some (.bool q1):=(HBK.out W2 HK2.out).cell rfl;go_wp2_with fail;refine(HD.out _).mono ?_;rintro e w3 ⟨v3,rfl,h3⟩;have H3:Hid (ByF 5 W2 w3 v3 (Lib.byteCells (refB c1.toNat r1.toNat p1 q1))):=h3;have HO3:Hid (ByF 5 W w3 (.slice (some ⟨w.heap.size+1,0,none⟩) 1 1) (Lib.byteCells ([kb]))):=HO.out.kp h3.is24;clear h3;go_wp2_with (at_builtin;refine L0 rfl (.tmp 43) (.tmp 46) 70 rfl rfl rfl HO3.out H3.out.src HL.out ?_);intro v' w' hb;have HE:Hid (ByF 5 W w' v' (Lib.byteCells ([kb]++refB c1.toNat r1.toNat p1 q1))):=hb;clear hb;go_wp2_with fail;go_meet
    case rel=>rw[HEF.out];exact HE.out
   ·have HEF:Hid (fldB ⟨6,o,x,s,b,f,c1,r1,p1,q1,c2,r2,p2,q2⟩ n=refB c1.toNat r1.toNat p1 q1++refB c2.toNat r2.toNat p2 q2):=(by show _=_;simp[fldB]);have HL1:Hid ([kb].length+(refB c1.toNat r1.toNat p1 q1).length<=140737488355328):=(by show _<=_;rw[Y9];simp);have HL2:Hid (([kb]++refB c1.toNat r1.toNat p1 q1).length+(refB c2.toNat r2.toNat p2 q2).length<=140737488355328):=(by show _<=_;rw[List.length_append,Y9,Y9];simp);have HD:Hid (∀w,Calls Tryz.prog 77 #[.agg #[.int .i64 c1,.int .i64 r1,.bool p1,.bool q1]] w fun e w'=>∃v,e=.returned v/\ByF 5 w w' v (Lib.byteCells (refB c1.toNat r1.toNat p1 q1))):=fun w=>by
     have:=j2w c1.toNat r1.toNat p1 q1 w (by have:=HCN.out.c1;simp only at this;omega) (by have:=HCN.out.r1;simp only at this;omega);rw[Int.toNat_of_nonneg HCN.out.c1.1,Int.toNat_of_nonneg HCN.out.r1.1] at this;exact this
    have HD2:Hid (∀w,Calls Tryz.prog 77 #[.agg #[.int .i64 c2,.int .i64 r2,.bool p2,.bool q2]] w fun e w'=>∃v,e=.returned v/\ByF 5 w w' v (Lib.byteCells (refB c2.toNat r2.toNat p2 q2))):=fun w=>by
     have:=j2w c2.toNat r2.toNat p2 q2 w (by have:=HCN.out.c2;simp only at this;omega) (by have:=HCN.out.r2;simp only at this;omega);rw[Int.toNat_of_nonneg HCN.out.c2.1,Int.toNat_of_nonneg HCN.out.r2.1] at this;exact this
    have HC:Hid (∀wq,Kp W wq Nul->(wq.cell? ⟨w.heap.size,6,none⟩=some (.int .i64 c1)/\wq.cell? ⟨w.heap.size,7,none⟩=some (.int .i64 r1)/\wq.cell? ⟨w.heap.size,8,none⟩=some (.bool p1)/\wq.cell? ⟨w.heap.size,9,none⟩=some (.bool q1))/\(wq.cell? ⟨w.heap.size,10,none⟩=some (.int .i64 c2)/\wq.cell? ⟨w.heap.size,11,none⟩=some (.int .i64 r2)/\wq.cell? ⟨w.heap.size,12,none⟩=some (.bool p2)/\wq.cell? ⟨w.heap.size,13,none⟩=some (.bool q2))):=fun wq k=>by
     have b:=HBK.out wq k;exact⟨⟨b.cell rfl,b.cell rfl,b.cell rfl,b.cell rfl⟩,b.cell rfl,b.cell rfl,b.cell rfl,b.cell rfl⟩
    go_wp2_with fail;refine wp_region_noPanic ?_;refine F5 (fun w':World=>Kp W w' Nul) (by kernel_rfl) (HK2.out.drew) (fun hHeld=>?_);refine j3 (i:=0) (v:=(.slice (some ⟨w.heap.size+1,0,none⟩) 1 1)) (some 50) rfl rfl (by kernel_rfl) (fun _ _ _ h=>h) (Or.inl ⟨by rfl,?_⟩) hHeld ?_
    ·intro w' hSw;clear hSw;go_simp
    simp only[Act.put,Sz0,Sz1,Sz2];refine j3 (i:=1) (v:=.pointer (some ⟨w.heap.size,6,none⟩)) (some 51) rfl rfl (by kernel_rfl) (fun _ _ _ h=>h) (Or.inl ⟨by rfl,?_⟩) hHeld ?_
    ·intro w' hSw;clear hSw;go_simp
    simp only[Act.put,Sz0,Sz1,Sz2];refine j3 (i:=2) (v:=.agg #[.int .i64 c1,.int .i64 r1,.bool p1,.bool q1]) (some 52) rfl rfl (by kernel_rfl) (fun _ _ _ h=>h) (Or.inl ⟨by rfl,?_⟩) hHeld ?_
    ·intro w' hSw;obtain⟨s0,s1,s2,s3⟩:=(HC.out w' hSw).1;clear hSw;go_simp
    simp only[Act.put,Sz0,Sz1,Sz2];refine j3 (i:=5) (v:=.pointer (some ⟨w.heap.size,10,none⟩)) (some 55) rfl rfl (by kernel_rfl) (fun _ _ _ h=>h) (Or.inl ⟨by rfl,?_⟩) hHeld ?_
    ·intro w' hSw;clear hSw;go_simp
    simp only[Act.put,Sz0,Sz1,Sz2];refine j3 (i:=6) (v:=.agg #[.int .i64 c2,.int .i64 r2,.bool p2,.bool q2]) (some 56) rfl rfl (by kernel_rfl) (fun _ _ _ h=>h) (Or.inl ⟨by rfl,?_⟩) hHeld ?_
    ·intro w' hSw;obtain⟨s0,s1,s2,s3⟩:=(HC.out w' hSw).2;clear hSw;go_simp
    simp only[Act.put,Sz0,Sz1,Sz2];refine D9 (i:=3) (by kernel_rfl) rfl rfl (fun K hK=>?_);go_simp;refine(HD.out _).mono ?_;rintro e w3 ⟨v3,rfl,h3⟩;have B3:Hid (ByF 5 W2 w3 v3 (Lib.byteCells (refB c1.toNat r1.toNat p1 q1))):=h3.base ((Kp.refl W2 Nul).drew);have O3:Hid (ByF 5 W w3 (.slice (some ⟨w.heap.size+1,0,none⟩) 1 1) (Lib.byteCells ([kb]))):=HO.out.kp B3.out.is24;refine hK.out _ _ O3.out.is24 (fun hHeld=>?_);clear hK K h3
    (try simp only[Act.put,Sz0,Sz1,Sz2])
    refine D9 (i:=4) (by kernel_rfl) rfl rfl (fun K hK=>?_);refine Z7 (.tmp 50) (.tmp 53) 70 rfl rfl rfl O3.out B3.out.src HL1.out ?_;intro v4 w4 h4;have O4:Hid (ByF 5 W w4 v4 (Lib.byteCells ([kb]++refB c1.toNat r1.toNat p1 q1))):=h4;refine hK.out _ _ O4.out.is24 (fun hHeld=>?_);clear hK K h4 O3 B3;show wpAnyH _ _ _ _ _ _ _ (Act.put _ (some 54) _) _;simp only[Act.put,Sz0,Sz1,Sz2];refine D9 (i:=7) (by kernel_rfl) rfl rfl (fun K hK=>?_);go_simp;refine(HD2.out _).mono ?_;rintro e w5 ⟨v5,rfl,h5⟩;have B5:Hid (ByF 5 w4 w5 v5 (Lib.byteCells (refB c2.toNat r2.toNat p2 q2))):=h5;have O5:Hid (ByF 5 W w5 v4 (Lib.byteCells ([kb]++refB c1.toNat r1.toNat p1 q1))):=O4.out.kp h5.is24;refine hK.out _ _ O5.out.is24 (fun hHeld=>?_);clear hK K h5 O4
    (try simp only[Act.put,Sz0,Sz1,Sz2])
    refine D9 (i:=8) (by kernel_rfl) rfl rfl (fun K hK=>?_);refine Z7 (.tmp 54) (.tmp 57) 70 rfl rfl rfl O5.out B5.out.src HL2.out ?_;intro v6 w6 h6;have HE:Hid (ByF 5 W w6 v6 (Lib.byteCells ([kb]++(refB c1.toNat r1.toNat p1 q1++refB c2.toNat r2.toNat p2 q2)))):=by
     rw[List.append_assoc] at h6;exact h6
    refine hK.out _ _ HE.out.is24 (fun hHeld=>?_);clear hK K h6;show wpAnyH _ _ _ _ _ _ _ (Act.put _ (some 58) _) _;simp only[Act.put,Sz0,Sz1,Sz2];refine j3 (i:=9) (v:=v6) (some 3) rfl rfl (by kernel_rfl) (fun _ _ _ h=>h) (Or.inl ⟨by rfl,?_⟩) hHeld ?_
    ·intro w' hSw;clear hSw;go_simp
    simp only[Act.put,Sz0,Sz1,Sz2];refine wpAnyH_done (by kernel_rfl) ?_ _;refine NoPanic.normal ?_;go_wp2_with fail;go_meet
    case rel=>rw[HEF.out];exact HE.out
   ·have HEF:Hid (fldB ⟨7,o,x,s,b,f,c1,r1,p1,q1,c2,r2,p2,q2⟩ n=[UInt8.ofNat o.toNat]):=(by show _=_;simp[fldB]);have HL:Hid ([kb].length+[UInt8.ofNat o.toNat].length<=140737488355328):=(by show _<=_;simp);have d1:W2.cell? ⟨w.heap.size,1,none⟩=some (.int .i64 o):=(HBK.out W2 HK2.out).cell rfl;have hcf:=V5 o HCN.out.o.1;obtain⟨tt,htt⟩:∃tt,UInt8.ofNat o.toNat=tt:=⟨_,rfl⟩;rw[htt] at hcf HL HEF;clear htt;go_wp2_with (at_builtin;refine L0 rfl (.tmp 62) (.tmp 66) 70 rfl rfl rfl (HO.out.kp ((Kp.refl W2 Nul).alloc _)) (U0 tt W2) HL.out ?_);intro v' w' hb;have HE:Hid (ByF 5 W w' v' (Lib.byteCells ([kb]++[tt]))):=hb;clear hb;go_wp2_with fail;go_meet
    case rel=>rw[HEF.out];exact HE.out
   ·have HEF:Hid (fldB ⟨8,o,x,s,b,f,c1,r1,p1,q1,c2,r2,p2,q2⟩ n=[UInt8.ofNat o.toNat]):=(by show _=_;simp[fldB]);have HL:Hid ([kb].length+[UInt8.ofNat o.toNat].length<=140737488355328):=(by show _<=_;simp);have d1:W2.cell? ⟨w.heap.size,1,none⟩=some (.int .i64 o):=(HBK.out W2 HK2.out).cell rfl;have hcf:=V5 o HCN.out.o.1;obtain⟨tt,htt⟩:∃tt,UInt8.ofNat o.toNat=tt:=⟨_,rfl⟩;rw[htt] at hcf HL HEF;clear htt;go_wp2_with (at_builtin;refine L0 rfl (.tmp 62) (.tmp 66) 70 rfl rfl rfl (HO.out.kp ((Kp.refl W2 Nul).alloc _)) (U0 tt W2) HL.out ?_);intro v' w' hb;have HE:Hid (ByF 5 W w' v' (Lib.byteCells ([kb]++[tt]))):=hb;clear hb;go_wp2_with fail;go_meet
    case rel=>rw[HEF.out];exact HE.out
   ·have HEF:Hid (fldB ⟨9,o,x,s,b,f,c1,r1,p1,q1,c2,r2,p2,q2⟩ n=txtB s++[UInt8.ofNat n]):=(by show _=_;simp[fldB]);have HVn':∀w,(convert 3 5 (.int .i64 (n:Nat))).run Tryz.prog w=.ok (.int .u8 ((UInt8.ofNat n).toNat:Nat)) w:=(fun w=>V5 (n:Int) (by omega) w);obtain⟨tt,htt⟩:∃tt,UInt8.ofNat n=tt:=⟨_,rfl⟩;rw[htt] at HVn' HEF;have HVn:Hid (∀w,(convert 3 5 (.int .i64 (n:Nat))).run Tryz.prog w=.ok (.int .u8 (tt.toNat:Nat)) w):=HVn';have HL1:Hid ([kb].length+(txtB s).length<=140737488355328):=(by show _<=_;rw[j0r];have:=HCN.out.s;simp only at this;simp;omega);have HL2:Hid (([kb]++txtB s).length+[tt].length<=140737488355328):=(by show _<=_;rw[List.length_append,j0r];have:=HCN.out.s;simp only at this;simp;omega);have HD:Hid (∀w,Calls Tryz.prog 75 #[.string s] w fun e w'=>∃v,e=.returned v/\ByF 5 w w' v (Lib.byteCells (txtB s))):=fun w=>j2y s HCN.out.s w
    have HC:Hid (∀wq,Kp W wq Nul->wq.cell? ⟨w.heap.size,3,none⟩=some (.string s)/\wq.cell? ⟨w.heap.size,14,none⟩=some (.slice a n c)):=fun wq k=>by
     have b:=HBK.out wq k;exact⟨b.cell rfl,b.cell rfl⟩
    clear htt HVn';go_wp2_with fail;refine wp_region_noPanic ?_;refine F5 (fun w':World=>Kp W w' Nul) (by kernel_rfl) (HK2.out.drew) (fun hHeld=>?_);refine j3 (i:=0) (v:=(.slice (some ⟨w.heap.size+1,0,none⟩) 1 1)) (some 70) rfl rfl (by kernel_rfl) (fun _ _ _ h=>h) (Or.inl ⟨by rfl,?_⟩) hHeld ?_
    ·intro w' hSw;clear hSw;go_simp
    simp only[Act.put,Sz0,Sz1,Sz2];refine j3 (i:=1) (v:=.pointer (some ⟨w.heap.size,3,none⟩)) (some 71) rfl rfl (by kernel_rfl) (fun _ _ _ h=>h) (Or.inl ⟨by rfl,?_⟩) hHeld ?_
    ·intro w' hSw;clear hSw;go_simp
    simp only[Act.put,Sz0,Sz1,Sz2];refine j3 (i:=2) (v:=.string s) (some 72) rfl rfl (by kernel_rfl) (fun _ _ _ h=>h) (Or.inl ⟨by rfl,?_⟩) hHeld ?_
    ·intro w' hSw;have s0:=(HC.out w' hSw).1;clear hSw;go_simp
    simp only[Act.put,Sz0,Sz1,Sz2];refine j3 (i:=5) (v:=.pointer (some ⟨w.heap.size,14,none⟩)) (some 75) rfl rfl (by kernel_rfl) (fun _ _ _ h=>h) (Or.inl ⟨by rfl,?_⟩) hHeld ?_
    ·intro w' hSw;clear hSw;go_simp
    simp only[Act.put,Sz0,Sz1,Sz2];refine j3 (i:=6) (v:=.slice a n c) (some 76) rfl rfl (by kernel_rfl) (fun _ _ _ h=>h) (Or.inl ⟨by rfl,?_⟩) hHeld ?_
    ·intro w' hSw;have s0:=(HC.out w' hSw).2;clear hSw;go_simp
    simp only[Act.put,Sz0,Sz1,Sz2];refine j3 (i:=7) (v:=.int .i64 (n:Nat)) (some 77) rfl rfl (by kernel_rfl) (fun _ _ _ h=>h) (Or.inl ⟨by rfl,?_⟩) hHeld ?_
    ·intro w' hSw;clear hSw;go_simp
    simp only[Act.put,Sz0,Sz1,Sz2];refine j3 (i:=8) (v:=.int .u8 (tt.toNat:Nat)) (some 78) rfl rfl (by kernel_rfl) (fun _ _ _ h=>h) (Or.inl ⟨by rfl,?_⟩) hHeld ?_
    ·intro w' hSw;have s0:=HVn.out;clear hSw;go_simp
    simp only[Act.put,Sz0,Sz1,Sz2];refine j6l (i:=3) (j:=9) (by kernel_rfl) rfl rfl rfl rfl ?_ ?_
    ·intro K hK;go_simp;refine(HD.out _).mono ?_;rintro e w3 ⟨v3,rfl,h3⟩;have B3:Hid (ByF 5 W2 w3 v3 (Lib.byteCells (txtB s))):=h3.base ((Kp.refl W2 Nul).drew);have O3:Hid (ByF 5 W w3 (.slice (some ⟨w.heap.size+1,0,none⟩) 1 1) (Lib.byteCells ([kb]))):=HO.out.kp B3.out.is24;refine hK.out _ _ O3.out.is24 (fun hHeld=>?_);clear hK K h3
     (try simp only[Act.put,Sz0,Sz1,Sz2])
     refine j6l (i:=4) (j:=9) (by kernel_rfl) rfl rfl rfl rfl ?_ ?_
     ·intro K hK;refine j3G (.tmp 70) (.tmp 73) 70 rfl rfl rfl O3.out B3.out.src HL1.out ?_;intro v4 w4 h4 k4;have O4:Hid (ByF 5 W w4 v4 (Lib.byteCells ([kb]++txtB s))):=h4;refine hK.out _ _ O4.out.is24 (fun hHeld=>?_);clear hK K h4 k4;show wpAnyH _ _ _ _ _ _ _ (Act.put _ (some 74) _) _;simp only[Act.put,Sz0,Sz1,Sz2];refine D9 (i:=9) (by kernel_rfl) rfl rfl (fun K hK=>?_);go_simp;refine hK.out _ _ (O4.out.is24.alloc _) (fun hHeld=>?_);clear hK K
      (try simp only[Act.put,Sz0,Sz1,Sz2])
      refine D9 (i:=10) (by kernel_rfl) rfl rfl (fun K hK=>?_);refine Z7 (.tmp 74) (.tmp 79) 70 rfl rfl rfl (O4.out.kp ((Kp.refl w4 Nul).alloc _)) (U0 tt w4) HL2.out ?_;intro v6 w6 h6;have HE:Hid (ByF 5 W w6 v6 (Lib.byteCells ([kb]++(txtB s++[tt])))):=by
       rw[List.append_assoc] at h6;exact h6
      refine hK.out _ _ HE.out.is24 (fun hHeld=>?_);clear hK K h6;show wpAnyH _ _ _ _ _ _ _ (Act.put _ (some 80) _) _;simp only[Act.put,Sz0,Sz1,Sz2];refine j3 (i:=11) (v:=v6) (some 3) rfl rfl (by kernel_rfl) (fun _ _ _ h=>h) (Or.inl ⟨by rfl,?_⟩) hHeld ?_
      ·intro w' hSw;clear hSw;go_simp
      simp only[Act.put,Sz0,Sz1,Sz2];refine wpAnyH_done (by kernel_rfl) ?_ _;refine NoPanic.normal ?_;go_wp2_with fail;go_meet
      case rel=>rw[HEF.out];exact HE.out
     ·intro K hK;go_simp;refine hK.out _ _ (O3.out.is24.alloc _) (fun hHeld=>?_);clear hK K
      (try simp only[Act.put,Sz0,Sz1,Sz2])
      have B3':Hid (ByF 5 W2 (w3.alloc (.cells #[.int .u8 (tt.toNat:Nat)] 5)) v3 (Lib.byteCells (txtB s))):=B3.out.kp ((Kp.refl w3 Nul).alloc _);have O3':Hid (ByF 5 W (w3.alloc (.cells #[.int .u8 (tt.toNat:Nat)] 5)) (.slice (some ⟨w.heap.size+1,0,none⟩) 1 1) (Lib.byteCells ([kb]))):=O3.out.kp ((Kp.refl w3 Nul).alloc _);have hlow:w.heap.size+1<w3.heap.size:=(by have h1:=HSz.out;have h2:=B3.out.is24.size;omega);have HX:Hid (By 5 (w3.alloc (.cells #[.int .u8 (tt.toNat:Nat)] 5)) (some w3.heap.size) (.slice (some ⟨w3.heap.size,0,none⟩) 1 1) (Lib.byteCells ([tt]))):=By.one w3 _ rfl;refine D9 (i:=4) (by kernel_rfl) rfl rfl (fun K hK=>?_);refine j3G (.tmp 70) (.tmp 73) 70 rfl rfl rfl O3'.out B3'.out.src HL1.out ?_;intro v4 w4 h4 k4;have O4:Hid (ByF 5 W w4 v4 (Lib.byteCells ([kb]++txtB s))):=h4;have X4:Hid (By 5 w4 (some w3.heap.size) (.slice (some ⟨w3.heap.size,0,none⟩) 1 1) (Lib.byteCells ([tt]))):=HX.out.kp k4 (fun c hc e=>by injection hc with hc;obtain⟨n1,c1,e⟩:=e;injection e with e _ _;injection e with e;injection e with e _ _;omega)
      refine hK.out _ _ O4.out.is24 (fun hHeld=>?_);clear hK K h4 k4;show wpAnyH _ _ _ _ _ _ _ (Act.put _ (some 74) _) _;simp only[Act.put,Sz0,Sz1,Sz2];refine D9 (i:=10) (by kernel_rfl) rfl rfl (fun K hK=>?_);refine Z7 (.tmp 74) (.tmp 79) 70 rfl rfl rfl O4.out (X4.out.src Tryz.underlying70) HL2.out ?_;intro v6 w6 h6;have HE:Hid (ByF 5 W w6 v6 (Lib.byteCells ([kb]++(txtB s++[tt])))):=by
       rw[List.append_assoc] at h6;exact h6
      refine hK.out _ _ HE.out.is24 (fun hHeld=>?_);clear hK K h6;show wpAnyH _ _ _ _ _ _ _ (Act.put _ (some 80) _) _;simp only[Act.put,Sz0,Sz1,Sz2];refine j3 (i:=11) (v:=v6) (some 3) rfl rfl (by kernel_rfl) (fun _ _ _ h=>h) (Or.inl ⟨by rfl,?_⟩) hHeld ?_
      ·intro w' hSw;clear hSw;go_simp
      simp only[Act.put,Sz0,Sz1,Sz2];refine wpAnyH_done (by kernel_rfl) ?_ _;refine NoPanic.normal ?_;go_wp2_with fail;go_meet
      case rel=>rw[HEF.out];exact HE.out
    ·intro K hK;go_simp;refine hK.out _ _ (HK2.out.drew.alloc _) (fun hHeld=>?_);clear hK K
     (try simp only[Act.put,Sz0,Sz1,Sz2])
     have OB:Hid (ByF 5 W (W2.drew.alloc (.cells #[.int .u8 (tt.toNat:Nat)] 5)) (.slice (some ⟨w.heap.size+1,0,none⟩) 1 1) (Lib.byteCells ([kb]))):=HO.out.kp ((Kp.refl W2 Nul).drew.alloc _);have HX:Hid (By 5 (W2.drew.alloc (.cells #[.int .u8 (tt.toNat:Nat)] 5)) (some W2.heap.size) (.slice (some ⟨W2.heap.size,0,none⟩) 1 1) (Lib.byteCells ([tt]))):=By.one W2.drew _ rfl;have hlow:w.heap.size+1<W2.heap.size:=(by have h1:=HSz.out;omega);refine D9 (i:=3) (by kernel_rfl) rfl rfl (fun K hK=>?_);go_simp;refine(HD.out _).mono ?_;rintro e w3 ⟨v3,rfl,h3⟩;have B3:Hid (ByF 5 (W2.drew.alloc (.cells #[.int .u8 (tt.toNat:Nat)] 5)) w3 v3 (Lib.byteCells (txtB s))):=h3;have O3:Hid (ByF 5 W w3 (.slice (some ⟨w.heap.size+1,0,none⟩) 1 1) (Lib.byteCells ([kb]))):=OB.out.kp h3.is24;have X3:Hid (By 5 w3 (some W2.heap.size) (.slice (some ⟨W2.heap.size,0,none⟩) 1 1) (Lib.byteCells ([tt]))):=HX.out.kp h3.is24 (fun _ _ x=>x)
     refine hK.out _ _ O3.out.is24 (fun hHeld=>?_);clear hK K h3
     (try simp only[Act.put,Sz0,Sz1,Sz2])
     refine D9 (i:=4) (by kernel_rfl) rfl rfl (fun K hK=>?_);refine j3G (.tmp 70) (.tmp 73) 70 rfl rfl rfl O3.out B3.out.src HL1.out ?_;intro v4 w4 h4 k4;have O4:Hid (ByF 5 W w4 v4 (Lib.byteCells ([kb]++txtB s))):=h4;have X4:Hid (By 5 w4 (some W2.heap.size) (.slice (some ⟨W2.heap.size,0,none⟩) 1 1) (Lib.byteCells ([tt]))):=X3.out.kp k4 (fun c hc e=>by injection hc with hc;obtain⟨n1,c1,e⟩:=e;injection e with e _ _;injection e with e;injection e with e _ _;omega);refine hK.out _ _ O4.out.is24 (fun hHeld=>?_);clear hK K h4 k4;show wpAnyH _ _ _ _ _ _ _ (Act.put _ (some 74) _) _;simp only[Act.put,Sz0,Sz1,Sz2];refine D9 (i:=10) (by kernel_rfl) rfl rfl (fun K hK=>?_);refine Z7 (.tmp 74) (.tmp 79) 70 rfl rfl rfl O4.out (X4.out.src Tryz.underlying70) HL2.out ?_;intro v6 w6 h6;have HE:Hid (ByF 5 W w6 v6 (Lib.byteCells ([kb]++(txtB s++[tt])))):=by
      rw[List.append_assoc] at h6;exact h6
     refine hK.out _ _ HE.out.is24 (fun hHeld=>?_);clear hK K h6;show wpAnyH _ _ _ _ _ _ _ (Act.put _ (some 80) _) _;simp only[Act.put,Sz0,Sz1,Sz2];refine j3 (i:=11) (v:=v6) (some 3) rfl rfl (by kernel_rfl) (fun _ _ _ h=>h) (Or.inl ⟨by rfl,?_⟩) hHeld ?_
     ·intro w' hSw;clear hSw;go_simp
     simp only[Act.put,Sz0,Sz1,Sz2];refine wpAnyH_done (by kernel_rfl) ?_ _;refine NoPanic.normal ?_;go_wp2_with fail;go_meet
     case rel=>rw[HEF.out];exact HE.out
  case rest=>
   have HB3:Hid (ByF 5 W wc u3 (Lib.byteCells ([kb]++fldB ⟨k,o,x,s,b,f,c1,r1,p1,q1,c2,r2,p2,q2⟩ n))):=hcut;clear hcut d0 c0 hck;have ls3:wc.cell? ⟨w.heap.size,14,none⟩=some (.slice a n c):=(HBK.out wc HB3.out.is24).cell rfl;obtain⟨fl,hfl⟩:∃fl,fldB ⟨k,o,x,s,b,f,c1,r1,p1,q1,c2,r2,p2,q2⟩ n=fl:=⟨_,rfl⟩;have HFE:Hid (fldB ⟨k,o,x,s,b,f,c1,r1,p1,q1,c2,r2,p2,q2⟩ n=fl):=hfl;rw[hfl] at HB3 HBD;clear hfl;go_wp2_with fail;go_loopw[3,4] (fun s3 s4 wr=>∃i:Nat,i<=n/\s4=.int .i64 i/\ByF 5 W wr s3 (Lib.byteCells ([kb]++fl++ndsB (ts.take i)))) (fun _ s4 _=>((n:Int)-RowKit.intOf s4).toNat)
   case atStart=>exact⟨0,Nat.zero_le _,by simp,by rw[List.take_zero,ndsB,List.append_nil];exact HB3.out⟩
   case round=>
    clear HB3 ls3;obtain⟨i,hi,rfl,hby⟩:=hrel;have HBY:Hid (ByF 5 W wr u3 (Lib.byteCells ([kb]++fl++ndsB (ts.take i)))):=hby
    have ls3:wr.cell? ⟨w.heap.size,14,none⟩=some (.slice a n c):=(HBK.out wr hby.is24).cell rfl;clear hby
    by_cases hlt:i<n
    ·have hi2:i<ts.length:=(by rw[HN.out];exact hlt);obtain⟨bb,o',rfl,sl,hr,hone,hcall⟩:=HLK.out i hi2 wr (HKW.out.trans HBY.out.is24);have HR:Hid (wr.rangeAt bb (o'+i*15) ((ts[i]).hd.cells sl)):=hr;have HCall:Hid (Calls Tryz.prog 37 #[(ts[i]).hd.val sl] wr fun e w'=>∃v,e=.returned v/\ByF 5 wr w' v (Lib.byteCells (ndB ts[i]))):=hcall wr (Kp.refl _ _);have HLen:Hid (([kb]++fl++ndsB (ts.take i)).length+(ndB ts[i]).length<=140737488355328):=HBD.out i hi2;have HT:Hid (ndsB (ts.take (i+1))=ndsB (ts.take i)++ndB ts[i]):=HTK.out i hi2;clear hr hone hcall;generalize ndB ts[i]=nb at *;generalize (ts[i]).hd=hh at *;have hlt':(i:Int)<(n:Int):=(by omega);have hi0:(0:Int)<=(i:Int):=(by omega);go_wp2_with (first|(refine wpList_load_mid rfl 64 (.tmp 92) rfl bb (o'+i*15) rfl (hh.cells sl) _ HR.out Tryz.underlying64 rfl z6 ?_)|fail)
     refine HCall.out.mono ?_;rintro e w5 ⟨v5,rfl,h5⟩;have H5:Hid (ByF 5 wr w5 v5 (Lib.byteCells nb)):=h5;have HBY5:Hid (ByF 5 W w5 u3 (Lib.byteCells ([kb]++fl++ndsB (ts.take i)))):=HBY.out.kp h5.is24;clear h5;go_wp2_with (at_builtin;refine L0 rfl (.tmp 88) (.tmp 94) 70 rfl rfl rfl HBY5.out H5.out.src HLen.out ?_);intro v6 w6 h6;have H6:Hid (ByF 5 W w6 v6 (Lib.byteCells ([kb]++fl++ndsB (ts.take (i+1))))):=by
      show ByF _ _ _ _ _;rw[HT.out];simp only[List.cons_append,List.nil_append] at h6 ⊢;exact h6
     clear h6;go_wp2_with fail;go_roundw
     case rel=>exact⟨i+1,by omega,by go_num,H6.out⟩
     case measure=>simp only[RowKit.intOf];omega
    ·have hie:i=n:=(by omega);subst hie;have HE:Hid (ByF 5 W wr u3 (Lib.byteCells ([kb]++fl++ndsB ts))):=by
      have:=HBY.out;rw[<- HN.out,List.take_length] at this;exact this
     go_wp2_with fail;go_ret;rw[HFE.out];exact⟨_,rfl,HE.out.base HKW.out⟩
end
end Go.Proofs.YtnceajanlnnfoaaGreatDoor
