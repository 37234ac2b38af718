/-Packed, the document's lists: rows in memory of one's own whose elemen. -/
import Derived.Test.YtnceajanlnnfoaaGreatDoorQrAx
import Derived.Lib.FrozenHead
import Derived.Deep.AppendSrc
import Derived.Deep.Upon
set_option maxRecDepth 20000
set_option maxHeartbeats 4000000
namespace Go.Proofs.YtnceajanlnnfoaaGreatDoor
open Go.RowKit Go.Shelf
inductive By (e:TypeId) (w:World):Option Nat->Value->List Value->Prop
 | none:By e w none (.slice none 0 0) []
 | some {b n cap:Nat} {cur:Array Value} {fz:Nat×Nat} {xs:List Value} (hn:xs.length=n) (hb:w.heap[b]? = some (.cells cur e fz)) (hf:∀i,i<cur.size->¬(fz.1<=i/\i<fz.2)) (hc:cur.size=cap) (ht:cur.toList.take n=xs) (h1:∀u∈xs,u.oneCell'=true):By e w (some b) (.slice (some ⟨b,0,none⟩) n cap) xs
theorem By.kp {e:TypeId}{w w':World}{S:Nat->Prop}{g:Option Nat}{v:Value}{xs:List Value}(h:By e w g v xs)(k:Kp w w' S)(hS:∀b,g=.some b->¬S b):By e w' g v xs:=by
 cases h with
 | none=>exact .none
 | some hn hb hf hc ht h1=>exact .some hn ((k.block _ (Array.getElem?_eq_some_iff.1 hb).1 (hS _ rfl)).trans hb) hf hc ht h1
theorem By.cell {e:TypeId}{w:World}{b n cap:Nat}{g:Option Nat}{xs:List Value}(h:By e w g (.slice (.some ⟨b,0,.none⟩) n cap) xs)(j:Nat)(x:Value)(hx:xs[j]? = .some x):w.cell? ⟨b,j,.none⟩=.some x:=by
 cases h with
 | some hn hb hf hc ht h1=>
  rw[cell_of_row w b j _ _ _ hb];rw[<- ht,List.getElem?_take] at hx;split at hx
  ·simpa using hx
  ·cases hx
theorem By.shape {e:TypeId}{w:World}{g:Option Nat}{v:Value}{xs:List Value}(h:By e w g v xs):∃p c,v=.slice p xs.length c/\xs.length<=c:=by
 cases h with
 | none=>exact⟨_,_,rfl,Nat.le_refl _⟩
 | some hn hb hf hc ht h1=>
  subst hn;refine⟨_,_,rfl,?_⟩;rename_i cur _
  have:=congrArg List.length ht;rw[List.length_take] at this;have h2:cur.toList.length=cur.size:=Array.length_toList;omega
theorem By.form {e:TypeId}{w:World}{g:Option Nat}{v:Value}{xs:List Value}(h:By e w g v xs):(v=.slice .none 0 0/\g=.none/\xs=[])∨∃b c,v=.slice (.some ⟨b,0,.none⟩) xs.length c/\g=.some b:=by
 cases h with
 | none=>exact .inl ⟨rfl,rfl,rfl⟩
 | some hn hb hf hc ht h1=>subst hn;exact .inr ⟨_,_,rfl,rfl⟩
theorem By.src {P:Program}{e t:TypeId}{w:World}{g:Option Nat}{v:Value}{xs:List Value}(h:By e w g v xs)(hk:P.underlying t=.some (.slice e)):Src P 1 t v xs.length xs w:=by
 have h0:=h;cases h with
 | none=>exact Src.ofNil w hk 0
 | some hn hb hf hc ht h1=>
  subst hn;refine Src.ofSlice w hk _ _ _ _ (by rw[Nat.mul_one]) (fun j u hu=>?_) h1;have hadd:∀b,(⟨b,0,.none⟩:Addr).add j=⟨b,j,.none⟩:=fun b=>by unfold Addr.add;split <;> simp_all
  rw[hadd];exact h0.cell j u hu
theorem jEC {P:Program}{t:TypeId}(hk:P.underlying t=some .string)(k:List UInt8)(w:World):Src P 1 t (.string ⟨k.toArray⟩) (Lib.byteCells k).length (Lib.byteCells k) w:=by
 have:=Src.ofString (P:=P) w hk ⟨k.toArray⟩;have e1:(ByteArray.mk k.toArray).size=(Lib.byteCells k).length:=by show k.toArray.size=_;rw[List.size_toArray,Lib.byteCells_length]
 have e2:byteCells ⟨k.toArray⟩=Lib.byteCells k:=by unfold byteCells Lib.byteCells;simp
 rw[e1,e2] at this;exact this
theorem j6I {P:Program}{t e t':TypeId}(hk:P.underlying t=some (.slice e))(x:Value)(h1:x.oneCell'=true)(w:World):Src P 1 t (.slice (some ⟨w.heap.size,0,none⟩) 1 1) [x].length [x] (w.alloc (.cells #[x] t')):=by
 refine Src.ofSlice _ hk _ _ _ _ rfl (fun j u hu=>?_) (fun u hu=>by rw[List.mem_singleton.1 hu];exact h1)
 match j,hu with
 | 0,hu=>
  simp at hu;subst hu;simp[Addr.add]
theorem j66 (g:Nat)(t:TypeId)(fz:Nat×Nat):∀(vs:List Value) (o:Nat) (w:World) (cur:Array Value),w.heap[g]? = some (.cells cur t fz)->o+vs.length<=cur.size->w.setCells g o vs=w.setRow g (cur.toList.take o++vs++cur.toList.drop (o+vs.length)).toArray
 | [],o,w,cur,hg,_=>by
  simp only[World.setCells,List.append_nil,List.length_nil,Nat.add_zero,List.take_append_drop,Array.toArray_toList];rw[setRow_self w g cur t fz hg]
 | v::rest,o,w,cur,hg,hl=>by
  have hi:o<cur.size:=by simp at hl;omega
  rw[World.setCells,setCell_eq_setRow w g o cur t fz v hg,j66 g t fz rest (o+1) (w.setRow g (cur.setIfInBounds o v)) (cur.setIfInBounds o v) (setRow_heap w g cur _ t _ hg) (by simp at hl ⊢;omega),setRow_setRow]
  congr 2
  have e:=list_seg_step cur.toList o v rest (by simp at hl ⊢;omega)
  simpa [Array.toList_setIfInBounds,Nat.add_assoc] using e
structure Ap (w w':World) (g g':Option Nat):Prop where
 kp:Kp w w' (fun b=>g=some b)
 row:g'=g∨∃b,g'=some b/\w.heap.size<=b
theorem j1b {P:Program}(t tx ty e:TypeId)(i:TypeInfo)(z:Value)(bytes:Nat)(ht:P.underlying t=some (.slice e))(hi:P.info? e=some i)(hz:i.zero=some z)(hs1:i.size=1)(hby:i.bytes=bytes)(hzs:z.cells.size=1)
 {w:World} {g:Option Nat} {v x:Value} {xs ys:List Value} (h:By e w g v xs) (hx:Src P 1 tx x ys.length ys w) (h63:xs.length+ys.length<=9223372036854775807) (h47:(xs.length+ys.length)*bytes<=140737488355328) :
 ∃v' g' w',(Builtin.append_ #[t,tx] ty #[v,x]).run P w=.ok v' w'/\By e w' g' v' (xs++ys)/\Ap w w' g g':=by
 obtain⟨p,c,hv,hlc⟩:=h.shape;have hx':Src P i.size tx x ys.length ys w:=by rw[hs1];exact hx
 by_cases hroom:xs.length+ys.length<=c
 ·cases h with
  | none=>
   injection hv with e1 e2 e3;subst e3;have h0:ys=[]:=List.length_eq_zero_iff.1 (by rw[List.length_nil,Nat.zero_add] at hroom;omega);subst h0;exact⟨_,_,_,run_append_nothing w t tx ty e i ht hi _ 0 0 (Nat.le_refl _) x hx',.none,Kp.refl _ _,.inl rfl⟩
  | some hn hb hf hc htk h1=>
   rename_i b n c' cur fz
   injection hv with e1 e2 e3;subst e1;subst e3;subst e2;have hcell:∀j,j<ys.length->xs.length+j<cur.size:=(fun j hj=>by omega);have hr:=run_append_room_src (P:=P) w t tx ty e i ht hi b 0 xs.length c' x ys.length ys hx' hroom (fun j hj=>by
    rw[hs1,Nat.mul_one,Nat.zero_add,cell_of_row w b _ cur _ fz hb,Array.getElem?_eq_getElem (hcell j hj)];rfl) (fun j hj=>by
    rw[hs1,Nat.mul_one,Nat.zero_add];have:=hf (xs.length+j) (hcell j hj);obtain⟨f1,f2⟩:=fz;simp only[World.frozen?,hb,Bool.and_eq_false_iff,decide_eq_false_iff_not];simp only at this;omega)
   rw[hs1,Nat.mul_one,Nat.zero_add] at hr;have hset:(w.setCells b xs.length ys).heap[b]? = .some (.cells (cur.toList.take xs.length++ys++cur.toList.drop (xs.length+ys.length)).toArray e fz):=by
    rw[j66 b e fz _ _ w cur hb (by omega)];exact setRow_heap w b cur _ _ _ hb
   refine⟨_,_,_,hr,By.some (by rw[List.length_append]) hset (by
    intro i hi;simp only[List.size_toArray,List.length_append,List.length_take,List.length_drop,Array.length_toList] at hi;exact hf i (by omega)) (by
    simp only[List.size_toArray,List.length_append,List.length_take,List.length_drop,Array.length_toList];omega) (by
    rw[List.toList_toArray,htk];exact List.take_left' (by rw[List.length_append])) (fun u hu=>(List.mem_append.1 hu).elim (h1 u) (hx.one u)),⟨Q1 (fun i=>some b=some i) rfl _ _ _,.inl rfl⟩⟩
 ·subst hv;have hold:(Builtin.firstCells i.size xs.length (.slice p xs.length c)).run P w.drew=.ok xs.toArray w.drew:=by
   have:=(h.src ht).cellsD;rw[hs1];exact this
  have hr:=run_append_grow_src (P:=P) w t tx ty e i z ht hi hz p xs.length c xs hold x ys.length ys hx' (by omega) (by omega) (growslice_fits (by omega) (by rw[hby];exact h47));have hge:=grownCap_ge w (xs.length+ys.length) c e;have h1:∀u∈xs,u.oneCell'=true:=(h.src ht).one;refine⟨_,_,_,hr,By.some (by rw[List.length_append]) (fz:=(0,0)) (heap_alloc_new _ _) (fun i _ hh=>by have:=hh.2;omega) ?_ ?_ (fun u hu=>(List.mem_append.1 hu).elim (h1 u) (hx.one u)),((Kp.refl w _).drew).alloc _,.inr ⟨_,rfl,Nat.le_refl _⟩⟩
  ·rw[Array.size_append,List.size_toArray,List.length_append,size_zeroCells,hzs];omega
  ·rw[Array.toList_append,List.toList_toArray];exact List.take_left' (by rw[List.length_append])
theorem j3C {P:Program}{w:World}{ops:Array Oper}{rest:List Oper}{o:Oper}{a:Act}{Q:Exit->Act->World->Prop}(hgd:o.guard=none)(s x:Operand)(t tx:TypeId)(ho:o.op=Op.call { callee:=Callee.builtin Builtin.append,args:=#[s,x],argTypes:=#[t,tx] })
 (v1 v2 v':Value) (w':World) (hs:a.eval s=v1) (hx:a.eval x=v2) (hr:(Builtin.append_ #[t,tx] o.type #[v1,v2]).run P w=.ok v' w') (h:wpList P ops Q rest (a.put o.dst v') w'):wpList P ops Q (o::rest) a w:=by
 refine wpList_plain hgd fun K hK=>?_
 unfold Oper.wp execOp;simp only[ho,resolve,invoke,builtin,Sem.run_bind,Sem.run_pure,Result.andThen_ok,List.map_toArray,List.map_cons,List.map_nil,hs,hx,hr];exact hK _ _ h
theorem j6o {P:Program}{w:World}{ops:Array Oper}{rest:List Oper}{o:Oper}{a:Act}{Q:Exit->Act->World->Prop}(hgd:o.guard=none)(s x:Operand)(t tx:TypeId)(ho:o.op=Op.call { callee:=Callee.builtin Builtin.append,args:=#[s,x],argTypes:=#[t,tx] })
 (e:TypeId) (i:TypeInfo) (z:Value) (bytes:Nat) (ht:P.underlying t=some (.slice e)) (hi:P.info? e=some i) (hz:i.zero=some z) (hs1:i.size=1) (hby:i.bytes=bytes) (hzs:z.cells.size=1)
 {g:Option Nat} {v v2:Value} {xs ys:List Value} (hs:a.eval s=v) (hx:a.eval x=v2) (hb:By e w g v xs) (hsrc:Src P 1 tx v2 ys.length ys w) (h63:xs.length+ys.length<=9223372036854775807) (h47:(xs.length+ys.length)*bytes<=140737488355328)
 (h:∀v' g' w',By e w' g' v' (xs++ys)->Ap w w' g g'->wpList P ops Q rest (a.put o.dst v') w'):wpList P ops Q (o::rest) a w:=by
 obtain⟨v',g',w',hr,h1,h2⟩:=j1b t tx o.type e i z bytes ht hi hz hs1 hby hzs hb hsrc h63 h47;exact j3C hgd s x t tx ho v v2 v' w' hs hx hr (h v' g' w' h1 h2)
def ByF (e:TypeId) (W w:World) (v:Value) (xs:List Value):Prop:=∃g,By e w g v xs/\(∀b,g=some b->W.heap.size<=b)/\Kp W w Nul
theorem ByF.kp {e:TypeId}{W w w':World}{v:Value}{xs:List Value}(h:ByF e W w v xs)(k:Kp w w' Nul):ByF e W w' v xs:=by
 obtain⟨g,h1,h2,h3⟩:=h;exact⟨g,h1.kp k (fun _ _ x=>x),h2,h3.trans k⟩
theorem ByF.nil (e:TypeId)(W:World):ByF e W W (.slice none 0 0) []:=⟨none,.none,fun _ h=>(by cases h),Kp.refl _ _⟩
theorem ByF.ap {e:TypeId}{W w w':World}{g g':Option Nat}{v':Value}{xs:List Value}(hk:Kp W w Nul)(hg:∀b,g=some b->W.heap.size<=b)(h:By e w' g' v' xs)(k:Ap w w' g g'):ByF e W w' v' xs:=by
 refine⟨g',h,fun b hb=>?_,hk.trans' k.kp (fun j hj e=>by have:=hg j e;omega)⟩;rcases k.row with r|⟨c,r,hc⟩
 ·exact hg b (r ▸ hb)
 ·rw[r] at hb;injection hb with hb;have:=hk.size;omega
theorem j4l:∀(k n:Nat),le (k+1) n=le k n++[UInt8.ofNat (n/256^k)]
 | 0,n=>by rw[Nat.pow_zero,Nat.div_one];rfl
 | k+1,n=>by
  rw[le,j4l k (n/256),Nat.div_div_eq_div_mul,<- Nat.pow_succ',<- List.cons_append]
  rfl
theorem j8L (l:List UInt8)(x:UInt8):Lib.byteCells (l++[x])=Lib.byteCells l++[.int .u8 (UInt8.toNat x)]:=by unfold Lib.byteCells;rw[List.map_append];rfl
theorem j0z (l k:List UInt8):Lib.byteCells (l++k)=Lib.byteCells l++Lib.byteCells k:=by unfold Lib.byteCells;rw[List.map_append]
theorem jDZ (m:Nat)(w:World):(convert 80 5 (.int .u64 ((m:Int)%256))).run Tryz.prog w=.ok (.int .u8 (UInt8.ofNat m).toNat) w:=by
 have e:((UInt8.ofNat m).toNat:Int)=(m:Int)%256:=by rw[UInt8.toNat_ofNat'];omega
 rw[e];have e2:(m:Int)%256%256=(m:Int)%256:=by omega
 simp[go_sem,convert,run_underlying Tryz.underlying80,run_underlying Tryz.underlying5,IntKind.wrap,IntKind.signed,e2]
theorem V3 (n k:Nat)(hn:n<18446744073709551616)(hk:k<=8)(w:World):
 Calls Tryz.prog 35 #[.int .u64 n,.int .i64 k] w fun e w'=>∃v,e=.returned v/\ByF 5 w w' v (Lib.byteCells (le k n)):=by
 have HK:Hid (k<=8):=hk;have HN:Hid (n<18446744073709551616):=hn;obtain⟨i8,hi8,hz8,hsz8,hby8⟩:=U6;clear hn hk;go_enter Tryz.func35,Tryz.ntmps35;go_wp2_with fail;go_loopw[0,5,6] (fun s0 s5 s6 wr=>∃i:Nat,i<=k/\s6=.int .i64 i/\s0=.int .u64 (n/256^i:Nat)/\ByF 5 w wr s5 (Lib.byteCells (le i n))) (fun _ _ s6 _=>((k:Int)-RowKit.intOf s6).toNat)
 case atStart=>exact⟨0,Nat.zero_le _,by simp,by rw[Nat.pow_zero,Nat.div_one],ByF.nil _ _⟩
 case round=>
  obtain⟨i,hi,rfl,rfl,g,hb,hg,hkp⟩:=hrel;have HB:Hid (By 5 wr g u5 (Lib.byteCells (le i n))):=hb;have HG:Hid (∀b,g=some b->w.heap.size<=b):=hg;have HKP:Hid (Kp w wr Nul):=hkp;clear hb hg hkp;by_cases hlt:i<k
  ·have hlt':(i:Int)<(k:Int):=(by omega);have HLT:Hid (i<k):=hlt;have HLE:Hid (Lib.byteCells (le (i+1) n)=Lib.byteCells (le i n)++[.int .u8 (UInt8.ofNat (n/256^i)).toNat]):=(by show _=_;rw[j4l,j8L]);have HDV:Hid (n/256^(i+1)=n/256^i/256):=(by show _=_;rw[Nat.div_div_eq_div_mul,<- Nat.pow_succ]);have HMB:Hid (n/256^i<18446744073709551616):=Nat.lt_of_le_of_lt (Nat.div_le_self _ _) HN.out;obtain⟨m,hm⟩:∃m,n/256^i=m:=⟨_,rfl⟩;rw[hm] at HLE HDV HMB ⊢;have hcv:=jDZ m;have hwq:IntKind.u64.wrap ((m:Int)/256)=(m:Int)/256:=(by have:=HMB.out;rw[IntKind.wrap_u64];omega);have HD2:Hid (((m/256:Nat):Int)=(m:Int)/256):=(by show _=_;omega);have hib:(i:Int)+1<=9223372036854775807:=(by have:=HK.out;omega);have hi0:(0:Int)<=(i:Int):=(by omega);clear hm hlt hi;go_wp2_with (at_builtin;refine j6o rfl (.tmp 12) (.tmp 16) 70 70 rfl 5 i8 (.int .u8 0) 1 Tryz.underlying70 hi8 hz8 hsz8 hby8 rfl rfl rfl (HB.out.kp ((Kp.refl wr Nul).alloc _) (fun _ _ x=>x)) (j6I Tryz.underlying70 _ rfl wr) ?a1 ?a2 ?_)
   case a1=>rw[Lib.byteCells_length,D8];have:=HK.out;have:=HLT.out;simp;omega
   case a2=>rw[Lib.byteCells_length,D8];have:=HK.out;have:=HLT.out;simp;omega
   intro v' g' w' hb' hap;have HBY:Hid (ByF 5 w w' v' (Lib.byteCells (le (i+1) n))):=by
    show ByF _ _ _ _ _;rw[HLE.out];exact ByF.ap (HKP.out.alloc _) HG.out hb' hap
   clear hb' hap hcv;go_wp2_with fail;go_roundw
   case rel=>exact⟨i+1,by have:=HLT.out;omega,by go_num,by rw[HDV.out,HD2.out],HBY.out⟩
   case measure=>simp only[RowKit.intOf];have:=HLT.out;omega
  ·have hie:i=k:=(by omega);subst hie;clear hi hlt;go_wp2_with fail;go_ret;exact⟨_,rfl,g,HB.out,HG.out,HKP.out⟩
abbrev Rs (w:World) (r:Nat) (b:List UInt8) (p:Nat) (bad:Bool):Prop:=Blk w r [.string ⟨b.toArray⟩,.int .i64 p,.bool bad] 152
def smO (b:List UInt8) (p n:Nat) (bad:Bool):Bool:=!bad&&decide (n<=b.length-p)
def smS (b:List UInt8) (p n:Nat) (bad:Bool):List UInt8:=if smO b p n bad=true then (b.drop p).take n else []
def smP (b:List UInt8) (p n:Nat) (bad:Bool):Nat:=if smO b p n bad=true then p+n else p
theorem j8H (l:List UInt8)(p n:Nat):(ByteArray.mk l.toArray).extract p (p+n)=⟨((l.drop p).take n).toArray⟩:=by
 have h:((ByteArray.mk l.toArray).extract p (p+n)).data=((l.drop p).take n).toArray:=by
  rw[ByteArray.data_extract];simp[List.extract_eq_take_drop]
 exact congrArg ByteArray.mk h
theorem jDL (r:Nat)(sb:ByteArray)(p n L:Int)(bad:Bool)(w:World)(hc:∀w',Kp w w' Nul->w'.cell? ⟨r,0,none⟩=some (.string sb)/\w'.cell? ⟨r,1,none⟩=some (.int .i64 p)/\w'.cell? ⟨r,2,none⟩=some (.bool bad))(hf:w.frozen? ⟨r,2,none⟩=false)
 (hsz:(sb.size:Int)=L) (hwr:wrap64 (L-p)=L-p) (h:bad=true∨(bad=false/\L-p<n)) :
 Calls Tryz.prog 138 #[.pointer (some ⟨r,0,none⟩),.int .i64 n] w fun e w'=>e=.returned (.string ⟨#[]⟩)/\w'=(w.setCell ⟨r,2,none⟩ (.bool true)).drew:=by
 have HC:Hid (∀w',Kp w w' Nul->w'.cell? ⟨r,0,none⟩=some (.string sb)/\w'.cell? ⟨r,1,none⟩=some (.int .i64 p)/\w'.cell? ⟨r,2,none⟩=some (.bool bad)):=hc;have HL:Hid ((sb.size:Int)=L):=hsz;have HWr:Hid (IntKind.i64.wrap (L-p)=L-p):=by show IntKind.i64.wrap _=_;rw[IntKind.wrap_i64];unfold wrap64 at hwr;exact hwr
 have f2:w.drew.frozen? ⟨r,2,none⟩=false:=hf;have l2:w.drew.cell? ⟨r,2,none⟩=some (.bool bad):=(hc _ ((Kp.refl w Nul).drew)).2.2;clear hc hf hsz hwr;rcases h with rfl|⟨rfl,h⟩
 ·go_enter Tryz.func138,Tryz.ntmps138;go_wp2_with fail;refine wp_region_noPanic ?_;refine F5 (fun w':World=>Kp w w' Nul) (by kernel_rfl) ((Kp.refl w Nul).drew) (fun hHeld=>?_);refine j3 (i:=0) (v:=.pointer (some ⟨r,0,none⟩)) (some 5) rfl rfl (by kernel_rfl) (fun _ _ _ h=>h) (Or.inl ⟨by rfl,?_⟩) hHeld ?_
  ·intro w' hSw;clear hSw;go_simp
  simp only[Act.put,Sz0,Sz1,Sz2];refine j3 (i:=1) (v:=.pointer (some ⟨r,0,none⟩)) (some 6) rfl rfl (by kernel_rfl) (fun _ _ _ h=>h) (Or.inl ⟨by rfl,?_⟩) hHeld ?_
  ·intro w' hSw;clear hSw;go_simp
  simp only[Act.put,Sz0,Sz1,Sz2];refine j3 (i:=2) (v:=.pointer (some ⟨r,2,none⟩)) (some 7) rfl rfl (by kernel_rfl) (fun _ _ _ h=>h) (Or.inl ⟨by rfl,?_⟩) hHeld ?_
  ·intro w' hSw;clear hSw;go_simp
  simp only[Act.put,Sz0,Sz1,Sz2];refine j3 (i:=3) (v:=.bool true) (some 8) rfl rfl (by kernel_rfl) (fun _ _ _ h=>h) (Or.inl ⟨by rfl,?_⟩) hHeld ?_
  ·intro w' hSw;have s0:=(HC.out w' hSw).2.2;clear hSw;go_simp
  simp only[Act.put,Sz0,Sz1,Sz2];refine j3 (i:=4) (v:=.bool true) (some 9) rfl rfl (by kernel_rfl) (fun _ _ _ h=>h) (Or.inl ⟨by rfl,?_⟩) hHeld ?_
  ·intro w' hSw;clear hSw;go_simp
  simp only[Act.put,Sz0,Sz1,Sz2];refine j3 (i:=5) (v:=undef) (some 10) rfl rfl (by kernel_rfl) (fun _ _ _ h=>h) (Or.inr ⟨by rfl,rfl⟩) hHeld ?_;simp only[Act.put,Sz0,Sz1,Sz2];refine j3 (i:=6) (v:=undef) (some 11) rfl rfl (by kernel_rfl) (fun _ _ _ h=>h) (Or.inr ⟨by rfl,rfl⟩) hHeld ?_;simp only[Act.put,Sz0,Sz1,Sz2];refine j3 (i:=7) (v:=undef) (some 12) rfl rfl (by kernel_rfl) (fun _ _ _ h=>h) (Or.inr ⟨by rfl,rfl⟩) hHeld ?_;simp only[Act.put,Sz0,Sz1,Sz2];refine j3 (i:=8) (v:=undef) (some 13) rfl rfl (by kernel_rfl) (fun _ _ _ h=>h) (Or.inr ⟨by rfl,rfl⟩) hHeld ?_;simp only[Act.put,Sz0,Sz1,Sz2];refine j3 (i:=9) (v:=undef) (some 14) rfl rfl (by kernel_rfl) (fun _ _ _ h=>h) (Or.inr ⟨by rfl,rfl⟩) hHeld ?_;simp only[Act.put,Sz0,Sz1,Sz2];refine j3 (i:=10) (v:=undef) (some 15) rfl rfl (by kernel_rfl) (fun _ _ _ h=>h) (Or.inr ⟨by rfl,rfl⟩) hHeld ?_;simp only[Act.put,Sz0,Sz1,Sz2];refine j3 (i:=11) (v:=undef) (some 16) rfl rfl (by kernel_rfl) (fun _ _ _ h=>h) (Or.inr ⟨by rfl,rfl⟩) hHeld ?_
  simp only[Act.put,Sz0,Sz1,Sz2];refine j3 (i:=12) (v:=undef) (some 17) rfl rfl (by kernel_rfl) (fun _ _ _ h=>h) (Or.inr ⟨by rfl,rfl⟩) hHeld ?_;simp only[Act.put,Sz0,Sz1,Sz2];refine j3 (i:=13) (v:=undef) (some 18) rfl rfl (by kernel_rfl) (fun _ _ _ h=>h) (Or.inr ⟨by rfl,rfl⟩) hHeld ?_;simp only[Act.put,Sz0,Sz1,Sz2];refine j3 (i:=14) (v:=undef) (some 19) rfl rfl (by kernel_rfl) (fun _ _ _ h=>h) (Or.inr ⟨by rfl,rfl⟩) hHeld ?_;simp only[Act.put,Sz0,Sz1,Sz2];refine j3 (i:=15) (v:=undef) (some 20) rfl rfl (by kernel_rfl) (fun _ _ _ h=>h) (Or.inr ⟨by rfl,rfl⟩) hHeld ?_;simp only[Act.put,Sz0,Sz1,Sz2];refine j3 (i:=16) (v:=undef) (some 21) rfl rfl (by kernel_rfl) (fun _ _ _ h=>h) (Or.inr ⟨by rfl,rfl⟩) hHeld ?_;simp only[Act.put,Sz0,Sz1,Sz2];refine j3 (i:=17) (v:=.bool true) (some 22) rfl rfl (by kernel_rfl) (fun _ _ _ h=>h) (Or.inl ⟨by rfl,?_⟩) hHeld ?_
  ·intro w' hSw;clear hSw;go_simp
  simp only[Act.put,Sz0,Sz1,Sz2];refine wpAnyH_done (by kernel_rfl) ?_ _;refine NoPanic.normal ?_;go_wp2_with fail;go_ret;exact⟨rfl,rfl⟩
 ·have HCmp:Hid (decide (L-p<n)=true):=decide_eq_true h;clear h;go_enter Tryz.func138,Tryz.ntmps138;go_wp2_with fail;refine wp_region_noPanic ?_;refine F5 (fun w':World=>Kp w w' Nul) (by kernel_rfl) ((Kp.refl w Nul).drew) (fun hHeld=>?_);refine j3 (i:=0) (v:=.pointer (some ⟨r,0,none⟩)) (some 5) rfl rfl (by kernel_rfl) (fun _ _ _ h=>h) (Or.inl ⟨by rfl,?_⟩) hHeld ?_
  ·intro w' hSw;clear hSw;go_simp
  simp only[Act.put,Sz0,Sz1,Sz2];refine j3 (i:=1) (v:=.pointer (some ⟨r,0,none⟩)) (some 6) rfl rfl (by kernel_rfl) (fun _ _ _ h=>h) (Or.inl ⟨by rfl,?_⟩) hHeld ?_
  ·intro w' hSw;clear hSw;go_simp
  simp only[Act.put,Sz0,Sz1,Sz2];refine j3 (i:=2) (v:=.pointer (some ⟨r,2,none⟩)) (some 7) rfl rfl (by kernel_rfl) (fun _ _ _ h=>h) (Or.inl ⟨by rfl,?_⟩) hHeld ?_
  ·intro w' hSw;clear hSw;go_simp
  simp only[Act.put,Sz0,Sz1,Sz2];refine j3 (i:=3) (v:=.bool false) (some 8) rfl rfl (by kernel_rfl) (fun _ _ _ h=>h) (Or.inl ⟨by rfl,?_⟩) hHeld ?_
  ·intro w' hSw;have s0:=(HC.out w' hSw).2.2;clear hSw;go_simp
  simp only[Act.put,Sz0,Sz1,Sz2];refine j3 (i:=4) (v:=.bool false) (some 9) rfl rfl (by kernel_rfl) (fun _ _ _ h=>h) (Or.inl ⟨by rfl,?_⟩) hHeld ?_
  ·intro w' hSw;clear hSw;go_simp
  simp only[Act.put,Sz0,Sz1,Sz2];refine j3 (i:=5) (v:=.int .i64 n) (some 10) rfl rfl (by kernel_rfl) (fun _ _ _ h=>h) (Or.inl ⟨by rfl,?_⟩) hHeld ?_
  ·intro w' hSw;clear hSw;go_simp
  simp only[Act.put,Sz0,Sz1,Sz2];refine j3 (i:=6) (v:=.pointer (some ⟨r,0,none⟩)) (some 11) rfl rfl (by kernel_rfl) (fun _ _ _ h=>h) (Or.inl ⟨by rfl,?_⟩) hHeld ?_
  ·intro w' hSw;clear hSw;go_simp
  simp only[Act.put,Sz0,Sz1,Sz2];refine j3 (i:=7) (v:=.pointer (some ⟨r,0,none⟩)) (some 12) rfl rfl (by kernel_rfl) (fun _ _ _ h=>h) (Or.inl ⟨by rfl,?_⟩) hHeld ?_
  ·intro w' hSw;clear hSw;go_simp
  simp only[Act.put,Sz0,Sz1,Sz2];refine j3 (i:=8) (v:=.pointer (some ⟨r,0,none⟩)) (some 13) rfl rfl (by kernel_rfl) (fun _ _ _ h=>h) (Or.inl ⟨by rfl,?_⟩) hHeld ?_
  ·intro w' hSw;clear hSw;go_simp
  simp only[Act.put,Sz0,Sz1,Sz2];refine j3 (i:=9) (v:=.string sb) (some 14) rfl rfl (by kernel_rfl) (fun _ _ _ h=>h) (Or.inl ⟨by rfl,?_⟩) hHeld ?_
  ·intro w' hSw;have s0:=(HC.out w' hSw).1;clear hSw;go_simp
  simp only[Act.put,Sz0,Sz1,Sz2];refine j3 (i:=10) (v:=.int .i64 L) (some 15) rfl rfl (by kernel_rfl) (fun _ _ _ h=>h) (Or.inl ⟨by rfl,?_⟩) hHeld ?_
  ·intro w' hSw;have s0:=HL.out;clear hSw;go_simp
  simp only[Act.put,Sz0,Sz1,Sz2];refine j3 (i:=11) (v:=.pointer (some ⟨r,0,none⟩)) (some 16) rfl rfl (by kernel_rfl) (fun _ _ _ h=>h) (Or.inl ⟨by rfl,?_⟩) hHeld ?_
  ·intro w' hSw;clear hSw;go_simp
  simp only[Act.put,Sz0,Sz1,Sz2];refine j3 (i:=12) (v:=.pointer (some ⟨r,0,none⟩)) (some 17) rfl rfl (by kernel_rfl) (fun _ _ _ h=>h) (Or.inl ⟨by rfl,?_⟩) hHeld ?_
  ·intro w' hSw;clear hSw;go_simp
  simp only[Act.put,Sz0,Sz1,Sz2];refine j3 (i:=13) (v:=.pointer (some ⟨r,1,none⟩)) (some 18) rfl rfl (by kernel_rfl) (fun _ _ _ h=>h) (Or.inl ⟨by rfl,?_⟩) hHeld ?_
  ·intro w' hSw;clear hSw;go_simp
  simp only[Act.put,Sz0,Sz1,Sz2];refine j3 (i:=14) (v:=.int .i64 p) (some 19) rfl rfl (by kernel_rfl) (fun _ _ _ h=>h) (Or.inl ⟨by rfl,?_⟩) hHeld ?_
  ·intro w' hSw;have s0:=(HC.out w' hSw).2.1;clear hSw;go_simp
  simp only[Act.put,Sz0,Sz1,Sz2];refine j3 (i:=15) (v:=.int .i64 (L-p)) (some 20) rfl rfl (by kernel_rfl) (fun _ _ _ h=>h) (Or.inl ⟨by rfl,?_⟩) hHeld ?_
  ·intro w' hSw;have s0:=HWr.out;clear hSw;go_simp
  simp only[Act.put,Sz0,Sz1,Sz2];refine j3 (i:=16) (v:=.bool true) (some 21) rfl rfl (by kernel_rfl) (fun _ _ _ h=>h) (Or.inl ⟨by rfl,?_⟩) hHeld ?_
  ·intro w' hSw;have s0:=HCmp.out;clear hSw;go_simp
  simp only[Act.put,Sz0,Sz1,Sz2];refine j3 (i:=17) (v:=.bool true) (some 22) rfl rfl (by kernel_rfl) (fun _ _ _ h=>h) (Or.inl ⟨by rfl,?_⟩) hHeld ?_
  ·intro w' hSw;clear hSw;go_simp
  simp only[Act.put,Sz0,Sz1,Sz2];refine wpAnyH_done (by kernel_rfl) ?_ _;refine NoPanic.normal ?_;go_wp2_with fail;go_ret;exact⟨rfl,rfl⟩
theorem jDM (r:Nat)(sb se:ByteArray)(p n L q:Int)(w W:World)(hc:∀w',Kp w w' Nul->w'.cell? ⟨r,0,none⟩=some (.string sb)/\w'.cell? ⟨r,1,none⟩=some (.int .i64 p)/\w'.cell? ⟨r,2,none⟩=some (.bool false))(hf:w.frozen? ⟨r,1,none⟩=false)
 (hsz:(sb.size:Int)=L) (hwr:wrap64 (L-p)=L-p) (h:¬L-p<n) (hq:wrap64 (p+n)=q) (hqn:wrap64 (q-n)=p) (hW:w.setCell ⟨r,1,none⟩ (.int .i64 q)=W) (hd:∀w',Kp W w' Nul->w'.cell? ⟨r,0,none⟩=some (.string sb)/\w'.cell? ⟨r,1,none⟩=some (.int .i64 q))
 (hsl:∀w,(Instr.sliceAt 9 (.string sb) (some (.int .i64 p)) (some (.int .i64 q)) none).run Tryz.prog w=.ok (.string se) w) :
 Calls Tryz.prog 138 #[.pointer (some ⟨r,0,none⟩),.int .i64 n] w fun e w'=>e=.returned (.string se)/\w'=W.drew.drew:=by
 have HC:Hid (∀w',Kp w w' Nul->w'.cell? ⟨r,0,none⟩=some (.string sb)/\w'.cell? ⟨r,1,none⟩=some (.int .i64 p)/\w'.cell? ⟨r,2,none⟩=some (.bool false)):=hc;have HD:Hid (∀w',Kp W w' Nul->w'.cell? ⟨r,0,none⟩=some (.string sb)/\w'.cell? ⟨r,1,none⟩=some (.int .i64 q)):=hd;have HL:Hid ((sb.size:Int)=L):=hsz;have HWr:Hid (IntKind.i64.wrap (L-p)=L-p):=by show IntKind.i64.wrap _=_;rw[IntKind.wrap_i64];unfold wrap64 at hwr;exact hwr
 have HWq:Hid (IntKind.i64.wrap (q-n)=p):=by show IntKind.i64.wrap _=_;rw[IntKind.wrap_i64];unfold wrap64 at hqn;exact hqn
 have HSl:Hid (∀w,(Instr.sliceAt 9 (.string sb) (some (.int .i64 p)) (some (.int .i64 q)) none).run Tryz.prog w=.ok (.string se) w):=hsl;have HW:Hid (w.setCell ⟨r,1,none⟩ (.int .i64 q)=W):=hW;have f1:w.drew.frozen? ⟨r,1,none⟩=false:=hf;have l1:w.drew.cell? ⟨r,1,none⟩=some (.int .i64 p):=(hc _ ((Kp.refl w Nul).drew)).2.1;have HCmp:Hid (decide (L-p<n)=false):=decide_eq_false h;clear hc hf hsz hwr h hqn hW hd hsl;go_enter Tryz.func138,Tryz.ntmps138;go_wp2_with fail;refine wp_region_noPanic ?_;refine F5 (fun w':World=>Kp w w' Nul) (by kernel_rfl) ((Kp.refl w Nul).drew) (fun hHeld=>?_);refine j3 (i:=0) (v:=.pointer (some ⟨r,0,none⟩)) (some 5) rfl rfl (by kernel_rfl) (fun _ _ _ h=>h) (Or.inl ⟨by rfl,?_⟩) hHeld ?_
 ·intro w' hSw;clear hSw;go_simp
 simp only[Act.put,Sz0,Sz1,Sz2];refine j3 (i:=1) (v:=.pointer (some ⟨r,0,none⟩)) (some 6) rfl rfl (by kernel_rfl) (fun _ _ _ h=>h) (Or.inl ⟨by rfl,?_⟩) hHeld ?_
 ·intro w' hSw;clear hSw;go_simp
 simp only[Act.put,Sz0,Sz1,Sz2];refine j3 (i:=2) (v:=.pointer (some ⟨r,2,none⟩)) (some 7) rfl rfl (by kernel_rfl) (fun _ _ _ h=>h) (Or.inl ⟨by rfl,?_⟩) hHeld ?_
 ·intro w' hSw;clear hSw;go_simp
 simp only[Act.put,Sz0,Sz1,Sz2];refine j3 (i:=3) (v:=.bool false) (some 8) rfl rfl (by kernel_rfl) (fun _ _ _ h=>h) (Or.inl ⟨by rfl,?_⟩) hHeld ?_
 ·intro w' hSw;have s0:=(HC.out w' hSw).2.2;clear hSw;go_simp
 simp only[Act.put,Sz0,Sz1,Sz2];refine j3 (i:=4) (v:=.bool false) (some 9) rfl rfl (by kernel_rfl) (fun _ _ _ h=>h) (Or.inl ⟨by rfl,?_⟩) hHeld ?_
 ·intro w' hSw;clear hSw;go_simp
 simp only[Act.put,Sz0,Sz1,Sz2];refine j3 (i:=5) (v:=.int .i64 n) (some 10) rfl rfl (by kernel_rfl) (fun _ _ _ h=>h) (Or.inl ⟨by rfl,?_⟩) hHeld ?_
 ·intro w' hSw;clear hSw;go_simp
 simp only[Act.put,Sz0,Sz1,Sz2];refine j3 (i:=6) (v:=.pointer (some ⟨r,0,none⟩)) (some 11) rfl rfl (by kernel_rfl) (fun _ _ _ h=>h) (Or.inl ⟨by rfl,?_⟩) hHeld ?_
 ·intro w' hSw;clear hSw;go_simp
 simp only[Act.put,Sz0,Sz1,Sz2];refine j3 (i:=7) (v:=.pointer (some ⟨r,0,none⟩)) (some 12) rfl rfl (by kernel_rfl) (fun _ _ _ h=>h) (Or.inl ⟨by rfl,?_⟩) hHeld ?_
 ·intro w' hSw;clear hSw;go_simp
 simp only[Act.put,Sz0,Sz1,Sz2];refine j3 (i:=8) (v:=.pointer (some ⟨r,0,none⟩)) (some 13) rfl rfl (by kernel_rfl) (fun _ _ _ h=>h) (Or.inl ⟨by rfl,?_⟩) hHeld ?_
 ·intro w' hSw;clear hSw;go_simp
 simp only[Act.put,Sz0,Sz1,Sz2];refine j3 (i:=9) (v:=.string sb) (some 14) rfl rfl (by kernel_rfl) (fun _ _ _ h=>h) (Or.inl ⟨by rfl,?_⟩) hHeld ?_
 ·intro w' hSw;have s0:=(HC.out w' hSw).1;clear hSw;go_simp
 simp only[Act.put,Sz0,Sz1,Sz2];refine j3 (i:=10) (v:=.int .i64 L) (some 15) rfl rfl (by kernel_rfl) (fun _ _ _ h=>h) (Or.inl ⟨by rfl,?_⟩) hHeld ?_
 ·intro w' hSw;have s0:=HL.out;clear hSw;go_simp
 simp only[Act.put,Sz0,Sz1,Sz2];refine j3 (i:=11) (v:=.pointer (some ⟨r,0,none⟩)) (some 16) rfl rfl (by kernel_rfl) (fun _ _ _ h=>h) (Or.inl ⟨by rfl,?_⟩) hHeld ?_
 ·intro w' hSw;clear hSw;go_simp
 simp only[Act.put,Sz0,Sz1,Sz2];refine j3 (i:=12) (v:=.pointer (some ⟨r,0,none⟩)) (some 17) rfl rfl (by kernel_rfl) (fun _ _ _ h=>h) (Or.inl ⟨by rfl,?_⟩) hHeld ?_
 ·intro w' hSw;clear hSw;go_simp
 simp only[Act.put,Sz0,Sz1,Sz2];refine j3 (i:=13) (v:=.pointer (some ⟨r,1,none⟩)) (some 18) rfl rfl (by kernel_rfl) (fun _ _ _ h=>h) (Or.inl ⟨by rfl,?_⟩) hHeld ?_
 ·intro w' hSw;clear hSw;go_simp
 simp only[Act.put,Sz0,Sz1,Sz2];refine j3 (i:=14) (v:=.int .i64 p) (some 19) rfl rfl (by kernel_rfl) (fun _ _ _ h=>h) (Or.inl ⟨by rfl,?_⟩) hHeld ?_
 ·intro w' hSw;have s0:=(HC.out w' hSw).2.1;clear hSw;go_simp
 simp only[Act.put,Sz0,Sz1,Sz2];refine j3 (i:=15) (v:=.int .i64 (L-p)) (some 20) rfl rfl (by kernel_rfl) (fun _ _ _ h=>h) (Or.inl ⟨by rfl,?_⟩) hHeld ?_
 ·intro w' hSw;have s0:=HWr.out;clear hSw;go_simp
 simp only[Act.put,Sz0,Sz1,Sz2];refine j3 (i:=16) (v:=.bool false) (some 21) rfl rfl (by kernel_rfl) (fun _ _ _ h=>h) (Or.inl ⟨by rfl,?_⟩) hHeld ?_
 ·intro w' hSw;have s0:=HCmp.out;clear hSw;go_simp
 simp only[Act.put,Sz0,Sz1,Sz2];refine j3 (i:=17) (v:=.bool false) (some 22) rfl rfl (by kernel_rfl) (fun _ _ _ h=>h) (Or.inl ⟨by rfl,?_⟩) hHeld ?_
 ·intro w' hSw;clear hSw;go_simp
 simp only[Act.put,Sz0,Sz1,Sz2];refine wpAnyH_done (by kernel_rfl) ?_ _;refine NoPanic.normal ?_;go_wp2_with (first|(rw[HW.out])|fail);refine wp_region_noPanic ?_;refine F5 (fun w':World=>Kp W w' Nul) (by kernel_rfl) (((Kp.refl W Nul).drew).drew) (fun hHeld=>?_);refine j3 (i:=0) (v:=.pointer (some ⟨r,0,none⟩)) (some 35) rfl rfl (by kernel_rfl) (fun _ _ _ h=>h) (Or.inl ⟨by rfl,?_⟩) hHeld ?_
 ·intro w' hSw;clear hSw;go_simp
 simp only[Act.put,Sz0,Sz1,Sz2];refine j3 (i:=1) (v:=.pointer (some ⟨r,0,none⟩)) (some 36) rfl rfl (by kernel_rfl) (fun _ _ _ h=>h) (Or.inl ⟨by rfl,?_⟩) hHeld ?_
 ·intro w' hSw;clear hSw;go_simp
 simp only[Act.put,Sz0,Sz1,Sz2];refine j3 (i:=2) (v:=.pointer (some ⟨r,0,none⟩)) (some 37) rfl rfl (by kernel_rfl) (fun _ _ _ h=>h) (Or.inl ⟨by rfl,?_⟩) hHeld ?_
 ·intro w' hSw;clear hSw;go_simp
 simp only[Act.put,Sz0,Sz1,Sz2];refine j3 (i:=3) (v:=.string sb) (some 38) rfl rfl (by kernel_rfl) (fun _ _ _ h=>h) (Or.inl ⟨by rfl,?_⟩) hHeld ?_
 ·intro w' hSw;have s0:=(HD.out w' hSw).1;clear hSw;go_simp
 simp only[Act.put,Sz0,Sz1,Sz2];refine j3 (i:=4) (v:=.pointer (some ⟨r,0,none⟩)) (some 39) rfl rfl (by kernel_rfl) (fun _ _ _ h=>h) (Or.inl ⟨by rfl,?_⟩) hHeld ?_
 ·intro w' hSw;clear hSw;go_simp
 simp only[Act.put,Sz0,Sz1,Sz2];refine j3 (i:=5) (v:=.pointer (some ⟨r,0,none⟩)) (some 40) rfl rfl (by kernel_rfl) (fun _ _ _ h=>h) (Or.inl ⟨by rfl,?_⟩) hHeld ?_
 ·intro w' hSw;clear hSw;go_simp
 simp only[Act.put,Sz0,Sz1,Sz2];refine j3 (i:=6) (v:=.pointer (some ⟨r,1,none⟩)) (some 41) rfl rfl (by kernel_rfl) (fun _ _ _ h=>h) (Or.inl ⟨by rfl,?_⟩) hHeld ?_
 ·intro w' hSw;clear hSw;go_simp
 simp only[Act.put,Sz0,Sz1,Sz2];refine j3 (i:=7) (v:=.int .i64 q) (some 42) rfl rfl (by kernel_rfl) (fun _ _ _ h=>h) (Or.inl ⟨by rfl,?_⟩) hHeld ?_
 ·intro w' hSw;have s0:=(HD.out w' hSw).2;clear hSw;go_simp
 simp only[Act.put,Sz0,Sz1,Sz2];refine j3 (i:=8) (v:=.int .i64 n) (some 43) rfl rfl (by kernel_rfl) (fun _ _ _ h=>h) (Or.inl ⟨by rfl,?_⟩) hHeld ?_
 ·intro w' hSw;clear hSw;go_simp
 simp only[Act.put,Sz0,Sz1,Sz2];refine j3 (i:=9) (v:=.int .i64 p) (some 44) rfl rfl (by kernel_rfl) (fun _ _ _ h=>h) (Or.inl ⟨by rfl,?_⟩) hHeld ?_
 ·intro w' hSw;have s0:=HWq.out;clear hSw;go_simp
 simp only[Act.put,Sz0,Sz1,Sz2];refine j3 (i:=10) (v:=.pointer (some ⟨r,0,none⟩)) (some 45) rfl rfl (by kernel_rfl) (fun _ _ _ h=>h) (Or.inl ⟨by rfl,?_⟩) hHeld ?_
 ·intro w' hSw;clear hSw;go_simp
 simp only[Act.put,Sz0,Sz1,Sz2];refine j3 (i:=11) (v:=.pointer (some ⟨r,0,none⟩)) (some 46) rfl rfl (by kernel_rfl) (fun _ _ _ h=>h) (Or.inl ⟨by rfl,?_⟩) hHeld ?_
 ·intro w' hSw;clear hSw;go_simp
 simp only[Act.put,Sz0,Sz1,Sz2];refine j3 (i:=12) (v:=.pointer (some ⟨r,1,none⟩)) (some 47) rfl rfl (by kernel_rfl) (fun _ _ _ h=>h) (Or.inl ⟨by rfl,?_⟩) hHeld ?_
 ·intro w' hSw;clear hSw;go_simp
 simp only[Act.put,Sz0,Sz1,Sz2];refine j3 (i:=13) (v:=.int .i64 q) (some 48) rfl rfl (by kernel_rfl) (fun _ _ _ h=>h) (Or.inl ⟨by rfl,?_⟩) hHeld ?_
 ·intro w' hSw;have s0:=(HD.out w' hSw).2;clear hSw;go_simp
 simp only[Act.put,Sz0,Sz1,Sz2];refine j3 (i:=14) (v:=.string se) (some 49) rfl rfl (by kernel_rfl) (fun _ _ _ h=>h) (Or.inl ⟨by rfl,?_⟩) hHeld ?_
 ·intro w' hSw;have s0:=HSl.out;clear hSw;go_simp
 simp only[Act.put,Sz0,Sz1,Sz2];refine j3 (i:=15) (v:=.string se) (some 4) rfl rfl (by kernel_rfl) (fun _ _ _ h=>h) (Or.inl ⟨by rfl,?_⟩) hHeld ?_
 ·intro w' hSw;clear hSw;go_simp
 simp only[Act.put,Sz0,Sz1,Sz2];refine wpAnyH_done (by kernel_rfl) ?_ _;refine NoPanic.normal ?_;go_wp2_with fail;go_ret;exact⟨rfl,rfl⟩
theorem jE2 (b:List UInt8)(p n:Nat)(h:p+n<=b.length)(w:World):
 (Instr.sliceAt 9 (.string ⟨b.toArray⟩) (some (.int .i64 (p:Int))) (some (.int .i64 ((p+n:Nat):Int))) none).run Tryz.prog w=.ok (.string ⟨((b.drop p).take n).toArray⟩) w:=by
 have hs:(ByteArray.mk b.toArray).size=b.length:=by show b.toArray.size=_;rw[List.size_toArray]
 have h1:(0:Int)<=(p:Int):=by omega
 have h2:(p:Int)<=((p+n:Nat):Int):=by omega
 have h3:((p+n:Nat):Int)<=((ByteArray.mk b.toArray).size:Int):=by rw[hs];omega
 have e:=j8H b p n;have h4:(0:Int)<=((p+n:Nat):Int):=by omega
 obtain⟨q,hq⟩:∃q,p+n=q:=⟨_,rfl⟩;rw[hq] at h2 h3 h4 e ⊢;have h5:¬b.length<q:=by omega
 simp[go_sem,h2,e,h5]
theorem j5u (r:Nat)(b:List UInt8)(p n:Nat)(bad:Bool)(w:World)(h:Rs w r b p bad)(hp:p<=b.length)(hb:b.length<=9223372036854775807):
 Calls Tryz.prog 138 #[.pointer (some ⟨r,0,none⟩),.int .i64 n] w fun e w'=>e=.returned (.string ⟨(smS b p n bad).toArray⟩)/\Rs w' r b (smP b p n bad) (!smO b p n bad)/\Kp w w' (fun i=>i=r):=by
 have hsz:((ByteArray.mk b.toArray).size:Int)=(b.length:Int):=by show ((b.toArray.size:Nat):Int)=_;rw[List.size_toArray]
 have hwr:wrap64 ((b.length:Int)-(p:Int))=(b.length:Int)-(p:Int):=by unfold wrap64;omega
 have hc:∀w',Kp w w' Nul->w'.cell? ⟨r,0,none⟩=some (.string ⟨b.toArray⟩)/\w'.cell? ⟨r,1,none⟩=some (.int .i64 p)/\w'.cell? ⟨r,2,none⟩=some (.bool bad):=fun w' k=>by
  have h':Rs w' r b p bad:=h.kp k (fun x=>x);exact⟨h'.cell rfl,h'.cell rfl,h'.cell rfl⟩
 cases ho:smO b p n bad with
 | false=>
  have e1:smS b p n bad=[]:=if_neg (by rw[ho];exact Bool.false_ne_true);have e2:smP b p n bad=p:=if_neg (by rw[ho];exact Bool.false_ne_true);rw[e1,e2];refine(jDL r ⟨b.toArray⟩ p n b.length bad w hc (h.froz 2) hsz hwr ?_).mono fun e w' hh=>⟨hh.1,?_,?_⟩
  ·cases bad with
   | true=>exact .inl rfl
   | false=>
    unfold smO at ho;rw[Bool.not_false,Bool.true_and] at ho;have:=of_decide_eq_false ho;exact .inr ⟨rfl,by omega⟩
  ·rw[hh.2];exact(h.set 2 (.bool true)).drew
  ·rw[hh.2];exact((Kp.refl w (fun i=>i=r)).setCell ⟨r,2,none⟩ _ (.inr rfl)).drew
 | true=>
  have hbad:bad=false:=by cases bad with
   | false=>rfl
   | true=>cases ho
  subst hbad;have hn:n<=b.length-p:=by
   unfold smO at ho;rw[Bool.not_false,Bool.true_and] at ho;exact of_decide_eq_true ho
  have e1:smS b p n false=(b.drop p).take n:=if_pos ho;have e2:smP b p n false=p+n:=if_pos ho;rw[e1,e2];have hR:Rs (w.setCell ⟨r,1,none⟩ (.int .i64 ((p+n:Nat):Int))) r b (p+n) false:=h.set 1 (.int .i64 ((p+n:Nat):Int));refine(jDM r ⟨b.toArray⟩ ⟨((b.drop p).take n).toArray⟩ p n b.length ((p+n:Nat):Int) w _ hc (h.froz 1) hsz hwr (by omega) (by unfold wrap64;omega) (by unfold wrap64;omega) rfl (fun w' k=>?_) (fun w=>jE2 b p n (by omega) w)).mono fun e w' hh=>⟨hh.1,?_,?_⟩
  ·have h':Rs w' r b (p+n) false:=hR.kp k (fun x=>x);exact⟨h'.cell rfl,h'.cell rfl⟩
  ·rw[hh.2];exact hR.drew.drew
  ·rw[hh.2];exact(((Kp.refl w (fun i=>i=r)).setCell ⟨r,1,none⟩ _ (.inr rfl)).drew).drew
theorem j32 (b:List UInt8)(p n:Nat)(bad:Bool):(smS b p n bad).length<=n:=by
 unfold smS;split
 ·exact List.length_take_le _ _
 ·simp
theorem jDd (n:Nat)(hn:n<256)(w:World):(convert 5 80 (.int .u8 n)).run Tryz.prog w=.ok (.int .u64 n) w:=by
 have e:(n:Int)%18446744073709551616=n:=by omega
 simp[go_sem,convert,run_underlying Tryz.underlying80,run_underlying Tryz.underlying5,IntKind.wrap,IntKind.signed,e]
theorem jDV (s:List UInt8)(i:Nat)(x:UInt8)(h:s[i]? = some x)(w:World):(Instr.index 9 (.string ⟨s.toArray⟩) (.int .i64 (i:Int))).run Tryz.prog w=.ok (.int .u8 (x.toNat:Nat)) w:=by
 have hl:=(List.getElem?_eq_some_iff.1 h).1;have hs:(ByteArray.mk s.toArray).size=s.length:=by show s.toArray.size=_;rw[List.size_toArray]
 rw[run_index_string w 9 ⟨s.toArray⟩ .i64 (i:Int) Tryz.underlying9,dif_pos (by rw[hs];omega)];have e:((ByteArray.mk s.toArray)[((i:Int)).toNat]'(by rw[hs];omega))=x:=by
  show s.toArray[((i:Int)).toNat]'_=x;have:s.toArray[i]? = some x:=by rw[List.getElem?_toArray];exact h
  obtain⟨h1,h2⟩:=Array.getElem?_eq_some_iff.1 this
  simpa using h2
 rw[e]
theorem jEX (s:List UInt8)(i:Nat)(x:UInt8)(h:s[i]? = some x):unle (s.drop i)=x.toNat+256*unle (s.drop (i+1)):=by
 obtain⟨h1,h2⟩:=List.getElem?_eq_some_iff.1 h;rw[List.drop_eq_getElem_cons h1,h2,unle]
theorem jCx (r:Nat)(b:List UInt8)(p n:Nat)(bad:Bool)(w:World)(h:Rs w r b p bad)(hp:p<=b.length)(hb:b.length<=9223372036854775807)(hn:n<=8):
 Calls Tryz.prog 84 #[.pointer (some ⟨r,0,none⟩),.int .i64 n] w fun e w'=>e=.returned (.int .u64 (unle (smS b p n bad):Nat))/\Rs w' r b (smP b p n bad) (!smO b p n bad)/\Kp w w' (fun i=>i=r):=by
 have HS:Hid (Calls Tryz.prog 138 #[.pointer (some ⟨r,0,none⟩),.int .i64 n] w fun e w'=>e=.returned (.string ⟨(smS b p n bad).toArray⟩)/\Rs w' r b (smP b p n bad) (!smO b p n bad)/\Kp w w' (fun i=>i=r)):=j5u r b p n bad w h hp hb;have hsl:=j32 b p n bad;obtain⟨s,hs⟩:∃s,smS b p n bad=s:=⟨_,rfl⟩;rw[hs] at HS hsl ⊢;obtain⟨k,hk⟩:∃k,s.length=k:=⟨_,rfl⟩;have HK:Hid (s.length=k):=hk;have HK8:Hid (k<=8):=by show _<=_;omega
 have hsz:((ByteArray.mk s.toArray).size:Int)=(k:Int):=by show ((s.toArray.size:Nat):Int)=_;rw[List.size_toArray,hk]
 have hw0:wrap64 ((k:Int)-1)=(k:Int)-1:=by unfold wrap64;omega
 have HU:Hid (∀i,unle (s.drop i)<18446744073709551616):=fun i=>by
  refine Nat.lt_of_lt_of_le (j0s _) ?_;have:(s.drop i).length<=8:=by rw[List.length_drop];omega
  exact Nat.le_trans (Nat.pow_le_pow_right (by decide) this) (by decide)
 clear h hp hb hn hsl hs hk;go_enter Tryz.func84,Tryz.ntmps84;go_wp2_with fail;refine HS.out.mono ?_;rintro e w1 ⟨rfl,hr1,k1⟩;have HE:Hid (Rs w1 r b (smP b p n bad) (!smO b p n bad)/\Kp w w1 (fun i=>i=r)):=⟨hr1,k1⟩;clear hr1 k1 HS;go_wp2_with fail;go_loopw[6,7] (fun s6 s7 wr=>∃j:Nat,j<=k/\s7=.int .i64 ((j:Int)-1)/\s6=.int .u64 (unle (s.drop j):Nat)/\wr=w1) (fun _ s7 _=>(RowKit.intOf s7+1).toNat)
 case atStart=>exact⟨k,Nat.le_refl _,by first|rfl|rw[hw0] | (rw[HK.out,hw0]),by rw[List.drop_of_length_le (by rw[HK.out];exact Nat.le_refl _)];rfl,rfl⟩
 case round=>
  obtain⟨j,hj,rfl,rfl,hw⟩:=hrel;replace hw:=hw.symm;subst hw;clear hw0;cases j with
  | zero=>
   clear hj;go_wp2_with fail;go_ret;exact⟨rfl,HE.out⟩
  | succ i=>
   obtain⟨x,hx⟩:∃x,s[i]? = some x:=⟨_,List.getElem?_eq_getElem (by rw[HK.out];omega)⟩;have hix:=jDV s i x hx;have hcv:=jDd x.toNat x.toNat_lt;have hu1:=HU.out i;have hst:=jEX s i x hx;obtain⟨u,hu⟩:∃u,unle (s.drop (i+1))=u:=⟨_,rfl⟩;have e1:(((i+1:Nat):Int)-1)=(i:Int):=(by omega);rw[hu] at hst ⊢;rw[e1];have hxl:=x.toNat_lt;obtain⟨y,hy⟩:∃y,x.toNat=y:=⟨_,rfl⟩;rw[hy] at hix hcv hst hxl;have HR:Hid (256*(u:Int)+(y:Int)=((unle (s.drop i):Nat):Int)):=(by show _=_;omega);have hm:IntKind.u64.wrap (256*(u:Int))=256*(u:Int):=(by rw[IntKind.wrap_u64];omega);have ha:IntKind.u64.wrap (256*(u:Int)+(y:Int))=256*(u:Int)+(y:Int):=(by rw[IntKind.wrap_u64];omega);have hi0:(0:Int)<=(i:Int):=(by omega);have HI:Hid (i+1<=k):=hj;have HWI:Hid (wrap64 ((i:Int)-1)=(i:Int)-1):=(by show _=_;have:=HK8.out;unfold wrap64;omega);clear hx hu1 hst hu e1 hxl hy hj;go_wp2_with (first|(rw[hix])|(rw[hcv])|fail)
   go_roundw
   case rel=>exact⟨i,by have:=HI.out;omega,by first|rfl|rw[HWI.out],by first|rw[HR.out] | rfl,by trivial⟩
   case measure=>simp only[RowKit.intOf];have:=HWI.out;omega
end Go.Proofs.YtnceajanlnnfoaaGreatDoor
