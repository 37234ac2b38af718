/- A world with new blocks laid behind it and draws made: nothing that was there turns. Small closers. No function of the program here. Variables of two and of four cells. No function of the program here. Cells and areas: plain functions. No program here. Packed, plain: numbers of k bytes; the sum of bytes. No function of the program here. The document's Valid, less, Order, ValidArea. Nodes as data: trees of fields; how they lie in memory. No function of the program here. weight and heavy: how many nodes. Contents as data; heavy. The program's Valid, .. .. -/
import Derived.RowKit3
import Derived.Extends
import Derived.Deep.Draws
import Derived.Test.YtnceajanlnnfoaaGreatDoorRows
import Derived.WalkKit
import Derived.WalkSpells
import Derived.WalkLawsBesides
import Derived.Deep.RegionWith
import Derived.Deep.MidRow
import Derived.Deep.RegionHeld3
import Derived.Deep.Slices
import Derived.ChangeSame
import Derived.OpenShut
set_option maxHeartbeats 2000000
set_option maxRecDepth 100000
namespace Go.Proofs.YtnceajanlnnfoaaGreatDoor
open Go.RowKit
structure Gr (w w':World):Prop where
 ext:w.Extends w'
 froz:∀ a,w'.frozen? a=w.frozen? a
namespace Gr
theorem refl (w:World):Gr w w:=⟨World.Extends.refl w,fun _=>rfl⟩
theorem trans {w w1 w2:World} (h:Gr w w1) (g:Gr w1 w2):Gr w w2:=⟨h.ext.trans g.ext,fun a=>(g.froz a).trans (h.froz a)⟩
theorem alloc {w w1:World} (h:Gr w w1) (c:Array Value) (t:TypeId):Gr w (w1.alloc (.cells c t)):=⟨h.ext.alloc _,fun a=>(frozen?_alloc_cells _ _ _ a).trans (h.froz a)⟩
theorem setCell {w w1:World} (h:Gr w w1) (a:Addr) (v:Value) (ha:w.heap.size≤a.block):Gr w (w1.setCell a v):=⟨h.ext.setCell a v ha,fun x=>(World.frozen?_setCell _ _ _ _).trans (h.froz x)⟩
theorem drew {w w1:World} (h:Gr w w1):Gr w w1.drew:=⟨h.ext.drew,h.froz⟩
theorem drewN {w w1:World} (h:Gr w w1) (n:Nat):Gr w (w1.drewN n):=⟨⟨h.ext.os,h.ext.tape,h.ext.output,h.ext.size,h.ext.cell,h.ext.frozen,h.ext.block⟩,h.froz⟩
theorem kept {w w':World} (h:Gr w w') (may:MemPlace→Prop):w.keptBut w' may:=by
 refine ⟨h.ext.os,h.ext.output,fun i hi=>?_⟩
 rw [h.ext.block i hi]
 cases w.heap[i]? with
 | none=>rfl
 | some o=>cases o <;> simp
theorem cell {w w':World} (h:Gr w w') {a:Addr} {v:Value} (hb:a.block < w.heap.size) (hc:w.cell? a=some v):w'.cell? a=some v:=by rw [h.ext.cell a hb,hc]
end Gr
theorem cell_lt {w:World} {b j:Nat} {v:Value} (h:w.cell? ⟨b,j,none⟩=some v):b < w.heap.size:=by
 rcases Nat.lt_or_ge b w.heap.size with c|c
 ·exact c
 ·have:w.heap[b]? = none:=by simp [c]
  simp [World.cell?,this] at h
theorem frozen_new (w:World) (j:Nat):w.frozen? ⟨w.heap.size,j,none⟩=false:=by
 simp [World.frozen?]
theorem rInt {k:IntKind} {a b:Int} (h:a=b):Ending.returned (.int k a)=.returned (.int k b):=by rw [h]
theorem rBool {a b:Bool} (h:a=b):Ending.returned (.bool a)=.returned (.bool b):=by rw [h]
def Has2 (w:World) (b:Nat) (x y:Value):Prop:=(w.cell? ⟨b,0,none⟩=some x∧w.cell? ⟨b,1,none⟩=some y)∧(w.frozen? ⟨b,0,none⟩=false∧w.frozen? ⟨b,1,none⟩=false)
theorem has2_new (w:World) (x y:Value) (t:TypeId):Has2 (w.alloc (.cells #[x,y] t)) w.heap.size x y:=by
 refine ⟨⟨?_,?_⟩,?_,?_⟩
 ·rw [World.cell?_alloc_at _ _ _ _ rfl];rfl
 ·rw [World.cell?_alloc_at _ _ _ _ rfl];rfl
 ·rw [frozen?_alloc_cells,frozen_new]
 ·rw [frozen?_alloc_cells,frozen_new]
theorem Has2.gr {w w':World} {b:Nat} {x y:Value} (h:Has2 w b x y) (g:Gr w w'):Has2 w' b x y:=by
 obtain ⟨⟨h0,h1⟩,f0,f1⟩:=h
 exact ⟨⟨g.cell (cell_lt h0) h0,g.cell (cell_lt h1) h1⟩,by rw [g.froz,f0],by rw [g.froz,f1]⟩
def vC (c r:Int):Bool:=decide (1≤c) && decide (c≤256) && decide (1≤r) && decide (r≤4096)
def cmpI (a b:Int):Int:=if a < b then -1 else if b < a then 1 else 0
def ordC (c r d s:Int):Int:=if cmpI r s=0 then cmpI c d else cmpI r s
def vA (c r d s:Int):Bool:=vC c r && vC d s && decide (c≤d) && decide (r≤s)
def inA (c r d s x y:Int):Bool:=vA c r d s && decide (c≤x) && decide (x≤d) && decide (r≤y) && decide (y≤s)
def sizeA (c r d s:Int):Int:=if vA c r d s then (d - c+1) * (s - r+1) else 0
theorem vC_iff (c r:Int):vC c r=true ↔ 1≤c∧c≤256∧1≤r∧r≤4096:=by
 simp [vC,Bool.and_eq_true,and_assoc]
theorem vA_bd (c r d s:Int):vA c r d s=true→1≤c∧c≤d∧d≤256∧1≤r∧r≤s∧s≤4096:=by
 simp only [vA,vC,Bool.and_eq_true,decide_eq_true_eq]
 omega
theorem vA_iff (c r d s:Int):vA c r d s=true ↔ 1≤c∧c≤d∧d≤256∧1≤r∧r≤s∧s≤4096:=by
 simp only [vA,vC,Bool.and_eq_true,decide_eq_true_eq]
 omega
theorem mul_bd (a b:Int) (h0:0≤a) (h1:a≤10000) (k0:0≤b) (k1:b≤10000):0≤a * b∧a * b≤100000000:=by
 refine ⟨Int.mul_nonneg h0 k0,?_⟩
 have:=Int.mul_le_mul h1 k1 k0 (by decide)
 omega
end Go.Proofs.YtnceajanlnnfoaaGreatDoor
namespace Go.Proofs.YtnceajanlnnfoaaGreatDoor
def le:Nat→Nat→List UInt8
 | 0,_=>[]
 | k+1,n=>UInt8.ofNat n :: le k (n / 256)
def unle:List UInt8→Nat
 | []=>0
 | b :: l=>b.toNat+256 * unle l
theorem le_len:∀ k n,(le k n).length=k
 | 0,_=>rfl
 | k+1,n=>by rw [le,List.length_cons,le_len k]
theorem unle_le:∀ k n,unle (le k n)=n % 256 ^ k
 | 0,n=>by rw [le,unle,Nat.pow_zero,Nat.mod_one]
 | k+1,n=>by
  have e:(256:Nat) ^ (k+1)=256 * 256 ^ k:=by rw [Nat.pow_succ,Nat.mul_comm]
  rw [le,unle,unle_le k,UInt8.toNat_ofNat',e,Nat.mod_mul]
theorem unle_lt:∀ l:List UInt8,unle l < 256 ^ l.length
 | []=>by rw [unle];exact Nat.one_pos
 | b :: l=>by
  have h:=unle_lt l
  have hb:=b.toNat_lt
  rw [unle,List.length_cons,Nat.pow_succ]
  omega
theorem le_unle:∀ l:List UInt8,le l.length (unle l)=l
 | []=>rfl
 | b :: l=>by
  have hb:=b.toNat_lt
  rw [List.length_cons,le,unle,show (b.toNat+256 * unle l) / 256=unle l by omega,le_unle l]
  congr 1
  apply UInt8.toNat_inj.1
  rw [UInt8.toNat_ofNat']
  omega
def crcF (c:BitVec 32):BitVec 32:=(c >>> 1) ^^^ (if c.getLsbD 0 then 0xEDB88320#32 else 0#32)
theorem crcF_xor (a b:BitVec 32):crcF (a ^^^ b)=crcF a ^^^ crcF b:=by
 unfold crcF
 rw [BitVec.ushiftRight_xor_distrib,BitVec.getLsbD_xor]
 generalize a >>> 1=x
 generalize b >>> 1=y
 generalize 0xEDB88320#32=z
 cases a.getLsbD 0 <;> cases b.getLsbD 0 <;> (simp only [Bool.bne_false,Bool.bne_true,Bool.not_true,Bool.not_false,if_true,if_false,Bool.false_eq_true];refine BitVec.eq_of_getLsbD_eq fun i _=>?_;simp only [BitVec.getLsbD_xor,BitVec.getLsbD_zero];cases x.getLsbD i <;> cases y.getLsbD i <;> cases z.getLsbD i <;> rfl)
def crcN:Nat→BitVec 32→BitVec 32
 | 0,c=>c
 | n+1,c=>crcN n (crcF c)
theorem crcN_xor:∀ n a b,crcN n (a ^^^ b)=crcN n a ^^^ crcN n b
 | 0,_,_=>rfl
 | n+1,a,b=>by rw [crcN,crcF_xor,crcN_xor n,crcN,crcN]
theorem crcN_shift:∀ (n:Nat) (c:BitVec 32),(∀ i,i < n→c.getLsbD i=false)→crcN n c=c >>> n
 | 0,c,_=>by rw [crcN,BitVec.ushiftRight_zero]
 | n+1,c,h=>by
  have e:crcF c=c >>> 1:=by
   unfold crcF
   rw [h 0 (by omega)]
   simp
  rw [crcN,e,crcN_shift n (c >>> 1) (fun i hi=>by rw [BitVec.getLsbD_ushiftRight,Nat.add_comm];exact h _ (by omega)),← BitVec.shiftRight_add,Nat.add_comm]
def crcB (c:BitVec 32) (b:UInt8):BitVec 32:=crcN 8 (c ^^^ BitVec.ofNat 32 b.toNat)
theorem crcB_tab (c:BitVec 32) (b:UInt8):crcB c b=crcN 8 (BitVec.ofNat 32 ((c.toNat % 256) ^^^ b.toNat)) ^^^ (c >>> 8):=by
 have hb:=b.toNat_lt
 have e1:c=BitVec.ofNat 32 (c.toNat % 256) ^^^ (c &&& 0xFFFFFF00#32):=by
  have:BitVec.ofNat 32 (c.toNat % 256)=c &&& 0xFF#32:=by
   apply BitVec.eq_of_toNat_eq
   rw [BitVec.toNat_ofNat,BitVec.toNat_and,show (0xFF#32).toNat=2 ^ 8 - 1 from rfl,Nat.and_two_pow_sub_one_eq_mod]
   have:=c.isLt
   omega
  rw [this]
  refine BitVec.eq_of_getLsbD_eq fun i hi=>?_
  rw [BitVec.getLsbD_xor,BitVec.getLsbD_and,BitVec.getLsbD_and]
  cases c.getLsbD i
  ·rfl
  ·rw [Bool.true_and,Bool.true_and]
   revert hi
   revert i
   decide
 have e2:(c &&& 0xFFFFFF00#32) >>> 8=c >>> 8:=by
  refine BitVec.eq_of_getLsbD_eq fun i hi=>?_
  rw [BitVec.getLsbD_ushiftRight,BitVec.getLsbD_ushiftRight,BitVec.getLsbD_and]
  by_cases h:8+i < 32
  ·have:(0xFFFFFF00#32).getLsbD (8+i)=true:=by
    revert h hi
    revert i
    decide
   rw [this,Bool.and_true]
  ·rw [BitVec.getLsbD_of_ge c _ (by omega),Bool.false_and]
 unfold crcB
 conv=>lhs;rw [e1]
 rw [show BitVec.ofNat 32 (c.toNat % 256) ^^^ (c &&& 0xFFFFFF00#32) ^^^ BitVec.ofNat 32 b.toNat=(BitVec.ofNat 32 (c.toNat % 256) ^^^ BitVec.ofNat 32 b.toNat) ^^^ (c &&& 0xFFFFFF00#32) by rw [BitVec.xor_assoc,BitVec.xor_comm (c &&& _),← BitVec.xor_assoc]]
 rw [crcN_xor,crcN_shift 8 (c &&& 0xFFFFFF00#32) (by
  intro i hi
  rw [BitVec.getLsbD_and]
  have:(0xFFFFFF00#32).getLsbD i=false:=by
   revert hi
   revert i
   decide
  rw [this,Bool.and_false]),e2]
 congr 2
 apply BitVec.eq_of_toNat_eq
 have h1:c.toNat % 256 < 2 ^ 8:=Nat.mod_lt _ (by decide)
 have h2:=Nat.xor_lt_two_pow h1 hb
 have h3:c.toNat % 256 < 2 ^ 32:=by omega
 have h4:b.toNat < 2 ^ 32:=by omega
 have h5:c.toNat % 256 ^^^ b.toNat < 2 ^ 32:=by omega
 rw [BitVec.toNat_xor,BitVec.toNat_ofNat,BitVec.toNat_ofNat,BitVec.toNat_ofNat,Nat.mod_eq_of_lt h3,Nat.mod_eq_of_lt h4,Nat.mod_eq_of_lt h5]
def crcL (c:BitVec 32) (l:List UInt8):BitVec 32:=l.foldl crcB c
theorem crcL_append (c:BitVec 32) (l m:List UInt8):crcL c (l ++ m)=crcL (crcL c l) m:=List.foldl_append ..
def crcS (l:List UInt8):Nat:=(~~~ crcL (~~~ 0#32) l).toNat
theorem crcS_lt (l:List UInt8):crcS l < 4294967296:=(~~~ crcL (~~~ 0#32) l).isLt
end Go.Proofs.YtnceajanlnnfoaaGreatDoor
namespace Go.Proofs.YtnceajanlnnfoaaGreatDoor
open Go.RowKit
theorem rValid_at (c r:Int) (w:World) :
  Calls Tryz.prog 63 #[.agg #[.int .i64 c,.int .i64 r]] w fun e w'=>e=.returned (.bool (vC c r))∧w'=w.alloc (.cells #[.int .i64 c,.int .i64 r] 57):=by
 have hV:Hid (vC c r=(decide (1≤c) && decide (c≤256) && decide (1≤r) && decide (r≤4096))):=rfl
 generalize vC c r=V at *
 go_enter Tryz.func63,Tryz.ntmps63
 go_wp2
 all_goals
  go_ret
  refine ⟨rBool ?_,rfl⟩
  rw [hV.out,Bool.eq_iff_iff]
  simp only [Bool.and_eq_true,decide_eq_true_eq,Bool.false_eq_true,false_iff]
  omega
theorem rValid_any (c r:Int) (w:World) :
  Calls Tryz.prog 63 #[.agg #[.int .i64 c,.int .i64 r]] w fun e w'=>e=.returned (.bool (vC c r))∧Gr w w':=
 (rValid_at c r w).mono fun e w' h=>⟨h.1,by rw [h.2];exact (Gr.refl w).alloc _ _⟩
theorem rless_any (a b:Int) (w:World) :
  Calls Tryz.prog 143 #[.int .i64 a,.int .i64 b] w fun e w'=>e=.returned (.int .i64 (cmpI a b))∧w'=w:=by
 have hV:Hid (cmpI a b=if a < b then -1 else if b < a then 1 else 0):=rfl
 generalize cmpI a b=V at *
 go_enter Tryz.func143,Tryz.ntmps143
 go_wp2
 all_goals
  go_ret
  refine ⟨rInt ?_,rfl⟩
  rw [hV.out]
  repeat' split
  all_goals omega
theorem rOrder_any (c r d s:Int) (w:World) :
  Calls Tryz.prog 88 #[.agg #[.int .i64 c,.int .i64 r],.agg #[.int .i64 d,.int .i64 s]] w fun e w'=>e=.returned (.int .i64 (ordC c r d s))∧Gr w w':=by
 have G1:Hid (Gr w ((w.alloc (.cells #[.int .i64 c,.int .i64 r] 57)).alloc (.cells #[.int .i64 d,.int .i64 s] 57))):=((Gr.refl w).alloc _ _).alloc _ _
 have H1:Hid (∀ w,Calls Tryz.prog 143 #[.int .i64 r,.int .i64 s] w fun e w'=>e=.returned (.int .i64 (cmpI r s))∧w'=w):=rless_any r s
 have H2:Hid (∀ w,Calls Tryz.prog 143 #[.int .i64 c,.int .i64 d] w fun e w'=>e=.returned (.int .i64 (cmpI c d))∧w'=w):=rless_any c d
 have hV:Hid (ordC c r d s=if cmpI r s=0 then cmpI c d else cmpI r s):=rfl
 generalize ordC c r d s=V at *
 generalize cmpI r s=p at *
 generalize cmpI c d=q at *
 go_enter Tryz.func88,Tryz.ntmps88
 go_wp2_with (first|(go_at_call_of 143 (Value.int .i64 r);refine (H1.out _).mono ?_;rintro e w' ⟨rfl,rfl⟩)|(go_at_call_of 143 (Value.int .i64 c);refine (H2.out _).mono ?_;rintro e w' ⟨rfl,rfl⟩))
 all_goals
  rename_i hp
  go_ret
  refine ⟨rInt ?_,G1.out⟩
  rw [hV.out]
  simp only [bne_iff_ne,ne_eq,bne_eq_false_iff_eq] at hp
  simp only [hp,if_true,if_false]
theorem rValidArea_at (c r d s:Int) (w:World) :
  Calls Tryz.prog 213 #[.agg #[.int .i64 c,.int .i64 r,.int .i64 d,.int .i64 s]] w fun e w'=>e=.returned (.bool (vA c r d s))∧w'=((w.alloc (.cells #[.int .i64 c,.int .i64 r,.int .i64 d,.int .i64 s] 134)).alloc (.cells #[.int .i64 c,.int .i64 r] 57)).alloc (.cells #[.int .i64 d,.int .i64 s] 57):=by
 have H1:Hid (∀ w,Calls Tryz.prog 63 #[.agg #[.int .i64 c,.int .i64 r]] w fun e w'=>e=.returned (.bool (vC c r))∧w'=w.alloc (.cells #[.int .i64 c,.int .i64 r] 57)):=rValid_at c r
 have H2:Hid (∀ w,Calls Tryz.prog 63 #[.agg #[.int .i64 d,.int .i64 s]] w fun e w'=>e=.returned (.bool (vC d s))∧w'=w.alloc (.cells #[.int .i64 d,.int .i64 s] 57)):=rValid_at d s
 have hV:Hid (vA c r d s=(vC c r && vC d s && decide (c≤d) && decide (r≤s))):=rfl
 generalize vA c r d s=V at *
 generalize vC c r=p at *
 generalize vC d s=q at *
 go_enter Tryz.func213,Tryz.ntmps213
 go_wp2_with fail
 refine (H1.out _).mono ?_
 rintro e w' ⟨rfl,rfl⟩
 go_wp2_with fail
 refine (H2.out _).mono ?_
 rintro e w' ⟨rfl,rfl⟩
 go_wp2_with fail
 all_goals
  go_ret
  refine ⟨rBool ?_,rfl⟩
  rw [hV.out]
  clear H1 H2 hV
  cases p <;> cases q <;> (try simp_all) <;> (try omega)
structure Hd where
 k:Int
 o:Int
 x:Nat
 s:ByteArray
 b:Bool
 f:Int
 c1:Int
 r1:Int
 p1:Bool
 q1:Bool
 c2:Int
 r2:Int
 p2:Bool
 q2:Bool
inductive Nd where
 | mk (h:Hd) (ts:List Nd)
def Nd.hd:Nd→Hd
 | .mk h _=>h
def Nd.ts:Nd→List Nd
 | .mk _ ts=>ts
theorem Nd.eta (t:Nd):t=.mk t.hd t.ts:=by cases t;rfl
mutual
def Nd.size:Nd→Nat
 | .mk _ ts=>1+sizeL ts
def sizeL:List Nd→Nat
 | []=>0
 | t :: ts=>t.size+sizeL ts
end
theorem sizeL_append (a b:List Nd):sizeL (a ++ b)=sizeL a+sizeL b:=by
 induction a with
 | nil=>simp [sizeL]
 | cons t ts ih=>rw [List.cons_append,sizeL,sizeL,ih,Nat.add_assoc]
theorem sizeL_take (ts:List Nd) (i:Nat) (h:i < ts.length):sizeL (ts.take (i+1))=sizeL (ts.take i)+(ts[i]).size:=by
 rw [List.take_add_one,List.getElem?_eq_getElem h,sizeL_append]
 simp [sizeL]
theorem sizeL_take_le (ts:List Nd) (i:Nat):sizeL (ts.take i)≤sizeL ts:=by
 conv=>rhs;rw [← List.take_append_drop i ts,sizeL_append]
 exact Nat.le_add_right _ _
theorem size_pos (t:Nd):1≤t.size:=by cases t;rw [Nd.size];omega
theorem size_get (ts:List Nd) (i:Nat) (h:i < ts.length):(ts[i]).size≤sizeL ts:=by
 have:=sizeL_take ts i h
 have:=sizeL_take_le ts (i+1)
 omega
theorem length_sizeL (ts:List Nd):ts.length≤sizeL ts:=by
 induction ts with
 | nil=>simp
 | cons t ts ih=>have:=size_pos t;rw [sizeL,List.length_cons];omega
abbrev Hd.cells (h:Hd) (sl:Value):List Value:=[.int .i64 h.k,.int .i64 h.o,.float .f64 h.x,.string h.s,.bool h.b,.int .i64 h.f,.int .i64 h.c1,.int .i64 h.r1,.bool h.p1,.bool h.q1,.int .i64 h.c2,.int .i64 h.r2,.bool h.p2,.bool h.q2,sl]
abbrev Hd.val (h:Hd) (sl:Value):Value:=.agg #[.int .i64 h.k,.int .i64 h.o,.float .f64 h.x,.string h.s,.bool h.b,.int .i64 h.f,.int .i64 h.c1,.int .i64 h.r1,.bool h.p1,.bool h.q1,.int .i64 h.c2,.int .i64 h.r2,.bool h.p2,.bool h.q2,sl]
mutual
def NdIn (w:World) (F:Nat→Prop) (sl:Value):Nd→Prop
 | .mk _ ts=>∃ (a:Option Addr) (c:Nat),sl=.slice a ts.length c∧ts.length≤c∧c≤maxLen∧((ts=[]∧(c=0∨a≠none))∨∃ b o,a=some ⟨b,o,none⟩∧F b∧NdsIn w F b o ts)
def NdsIn (w:World) (F:Nat→Prop) (b o:Nat):List Nd→Prop
 | []=>True
 | t :: ts=>(∃ sl,w.rangeAt b o (t.hd.cells sl)∧NdIn w F sl t)∧NdsIn w F b (o+15) ts
end
theorem NdsIn.get {w:World} {F:Nat→Prop} {b:Nat} {ts:List Nd}:∀ {o:Nat},NdsIn w F b o ts→∀ i,(h:i < ts.length)→∃ sl,w.rangeAt b (o+i * 15) ((ts[i]).hd.cells sl)∧NdIn w F sl ts[i]:=by
 induction ts with
 | nil=>intro o _ i h;exact absurd h (by simp)
 | cons t ts ih=>
  intro o hn i h
  rw [NdsIn] at hn
  cases i with
  | zero=>simpa using hn.1
  | succ i=>
   obtain ⟨sl,h1,h2⟩:=ih hn.2 i (by simpa using h)
   refine ⟨sl,?_,h2⟩
   rw [show o+(i+1) * 15=o+15+i * 15 by omega]
   exact h1
theorem rangeAt_lt {w:World} {b o:Nat} {v:Value} {cs:List Value} (h:w.rangeAt b o (v :: cs)):b < w.heap.size:=
 cell_lt (h 0 v rfl)
theorem rangeAt_block {w w':World} {b o:Nat} {cs:List Value} (h:w.rangeAt b o cs) (hb:w'.heap[b]? = w.heap[b]?):w'.rangeAt b o cs:=by
 intro j v hj
 have:=h j v hj
 simp only [World.cell?] at this ⊢
 rw [hb];exact this
theorem rangeAt_gr {w w':World} {b o:Nat} {v:Value} {cs:List Value} (h:w.rangeAt b o (v :: cs)) (g:Gr w w'):w'.rangeAt b o (v :: cs):=
 rangeAt_block h (g.ext.block b (rangeAt_lt h))
mutual
theorem NdIn.mono {w w':World} {F F':Nat→Prop} (hF:∀ b,F b→b < w.heap.size→w'.heap[b]? = w.heap[b]? ∧ F' b) {sl:Value}:∀ {t:Nd},NdIn w F sl t→NdIn w' F' sl t
 | .mk _ ts,h=>by
  rw [NdIn] at h ⊢
  obtain ⟨a,c,h1,h2,h3,h4⟩:=h
  refine ⟨a,c,h1,h2,h3,?_⟩
  rcases h4 with h4|⟨b,o,h4,h5,h6⟩
  ·exact .inl h4
  ·cases ts with
   | nil=>
    subst h4
    exact .inl ⟨rfl,.inr (by simp)⟩
   | cons t ts=>
    have hb:b < w.heap.size:=by
     rw [NdsIn] at h6
     obtain ⟨⟨_,h7,_⟩,_⟩:=h6
     exact rangeAt_lt h7
    exact .inr ⟨b,o,h4,(hF b h5 hb).2,NdsIn.mono hF (hF b h5 hb).1 h6⟩
theorem NdsIn.mono {w w':World} {F F':Nat→Prop} (hF:∀ b,F b→b < w.heap.size→w'.heap[b]? = w.heap[b]? ∧ F' b) {b:Nat} (hb:w'.heap[b]? = w.heap[b]?):∀ {ts:List Nd} {o:Nat},NdsIn w F b o ts→NdsIn w' F' b o ts
 | [],_,_=>by rw [NdsIn];trivial
 | t :: ts,o,h=>by
  rw [NdsIn] at h ⊢
  obtain ⟨⟨sl,h1,h2⟩,h3⟩:=h
  exact ⟨⟨sl,rangeAt_block h1 hb,NdIn.mono hF h2⟩,NdsIn.mono hF hb h3⟩
end
theorem NdIn.gr {w w':World} {F:Nat→Prop} {sl:Value} {t:Nd} (h:NdIn w F sl t) (g:Gr w w'):NdIn w' F sl t:=
 h.mono fun b hb hlt=>⟨g.ext.block b hlt,hb⟩
theorem infoNode:(Tryz.prog.info? 64).map (·.size)=some 15:=by kernel_rfl
structure Vl where
 k:Int
 x:Nat
 s:ByteArray
 b:Bool
 f:Int
structure Ct where
 k:Int
 v:Vl
 t:Nd
abbrev Vl.cells (v:Vl):List Value:=[.int .i64 v.k,.float .f64 v.x,.string v.s,.bool v.b,.int .i64 v.f]
abbrev Vl.val (v:Vl):Value:=.agg #[.int .i64 v.k,.float .f64 v.x,.string v.s,.bool v.b,.int .i64 v.f]
abbrev Ct.cells (c:Ct) (sl:Value):List Value:=[.int .i64 c.k,.int .i64 c.v.k,.float .f64 c.v.x,.string c.v.s,.bool c.v.b,.int .i64 c.v.f,
 .int .i64 c.t.hd.k,.int .i64 c.t.hd.o,.float .f64 c.t.hd.x,.string c.t.hd.s,.bool c.t.hd.b,.int .i64 c.t.hd.f,.int .i64 c.t.hd.c1,.int .i64 c.t.hd.r1,.bool c.t.hd.p1,.bool c.t.hd.q1,.int .i64 c.t.hd.c2,.int .i64 c.t.hd.r2,.bool c.t.hd.p2,.bool c.t.hd.q2,sl]
abbrev Ct.val (c:Ct) (sl:Value):Value:=.agg #[.int .i64 c.k,.int .i64 c.v.k,.float .f64 c.v.x,.string c.v.s,.bool c.v.b,.int .i64 c.v.f,
 .int .i64 c.t.hd.k,.int .i64 c.t.hd.o,.float .f64 c.t.hd.x,.string c.t.hd.s,.bool c.t.hd.b,.int .i64 c.t.hd.f,.int .i64 c.t.hd.c1,.int .i64 c.t.hd.r1,.bool c.t.hd.p1,.bool c.t.hd.q1,.int .i64 c.t.hd.c2,.int .i64 c.t.hd.r2,.bool c.t.hd.p2,.bool c.t.hd.q2,sl]
theorem pValid_at (c r:Int) (w:World) :
  Calls Tryz.prog 58 #[.agg #[.int .i64 c,.int .i64 r]] w fun e w'=>e=.returned (.bool (vC c r))∧w'=w.alloc (.cells #[.int .i64 c,.int .i64 r] 57):=by
 have hV:Hid (vC c r=(decide (1≤c) && decide (c≤256) && decide (1≤r) && decide (r≤4096))):=rfl
 generalize vC c r=V at *
 go_enter Tryz.func58,Tryz.ntmps58
 go_wp2
 all_goals
  go_ret
  refine ⟨rBool ?_,rfl⟩
  rw [hV.out,Bool.eq_iff_iff]
  simp only [Bool.and_eq_true,decide_eq_true_eq,Bool.false_eq_true,false_iff]
  omega
theorem pValidArea_any (c r d s:Int) (w:World) :
  Calls Tryz.prog 208 #[.agg #[.int .i64 c,.int .i64 r,.int .i64 d,.int .i64 s]] w fun e w'=>e=.returned (.bool (vA c r d s))∧Gr w w':=by
 have H1:Hid (∀ w,Calls Tryz.prog 58 #[.agg #[.int .i64 c,.int .i64 r]] w fun e w'=>e=.returned (.bool (vC c r))∧w'=w.alloc (.cells #[.int .i64 c,.int .i64 r] 57)):=pValid_at c r
 have H2:Hid (∀ w,Calls Tryz.prog 58 #[.agg #[.int .i64 d,.int .i64 s]] w fun e w'=>e=.returned (.bool (vC d s))∧w'=w.alloc (.cells #[.int .i64 d,.int .i64 s] 57)):=pValid_at d s
 have hV:Hid (vA c r d s=(vC c r && vC d s && decide (c≤d) && decide (r≤s))):=rfl
 have G2:Hid (∀ a b t u,Gr w ((w.alloc (.cells a t)).alloc (.cells b u))):=fun a b t u=>((Gr.refl w).alloc _ _).alloc _ _
 have G3:Hid (∀ a b d t u v,Gr w (((w.alloc (.cells a t)).alloc (.cells b u)).alloc (.cells d v))):=fun a b d t u v=>(((Gr.refl w).alloc _ _).alloc _ _).alloc _ _
 generalize vA c r d s=V at *
 generalize vC c r=p at *
 generalize vC d s=q at *
 cases p
 ·go_enter Tryz.func208,Tryz.ntmps208
  go_wp2_with fail
  refine (H1.out _).mono ?_
  rintro e w' ⟨rfl,rfl⟩
  go_wp2_with fail
  go_ret
  exact ⟨rBool hV.out.symm,G2.out _ _ _ _⟩
 ·cases q
  ·go_enter Tryz.func208,Tryz.ntmps208
   go_wp2_with fail
   refine (H1.out _).mono ?_
   rintro e w' ⟨rfl,rfl⟩
   go_wp2_with fail
   refine (H2.out _).mono ?_
   rintro e w' ⟨rfl,rfl⟩
   go_wp2_with fail
   go_ret
   exact ⟨rBool hV.out.symm,G3.out _ _ _ _ _ _⟩
  ·go_enter Tryz.func208,Tryz.ntmps208
   go_wp2_with fail
   refine (H1.out _).mono ?_
   rintro e w' ⟨rfl,rfl⟩
   go_wp2_with fail
   refine (H2.out _).mono ?_
   rintro e w' ⟨rfl,rfl⟩
   go_wp2_with fail
   all_goals
    go_ret
    refine ⟨rBool ?_,G3.out _ _ _ _ _ _⟩
    rw [hV.out]
    clear H1 H2 hV G2 G3
    (try simp_all) <;> (try omega)
theorem pIn_any (c r d s x y:Int) (w:World) :
  Calls Tryz.prog 191 #[.agg #[.int .i64 c,.int .i64 r,.int .i64 d,.int .i64 s],.agg #[.int .i64 x,.int .i64 y]] w fun e w'=>e=.returned (.bool (inA c r d s x y))∧Gr w w':=by
 have H1:Hid (∀ w,Calls Tryz.prog 208 #[.agg #[.int .i64 c,.int .i64 r,.int .i64 d,.int .i64 s]] w fun e w'=>e=.returned (.bool (vA c r d s))∧Gr w w'):=pValidArea_any c r d s
 have G:Hid (Gr w ((w.alloc (.cells #[.int .i64 c,.int .i64 r,.int .i64 d,.int .i64 s] 134)).alloc (.cells #[.int .i64 x,.int .i64 y] 57))):=((Gr.refl w).alloc _ _).alloc _ _
 have hV:Hid (inA c r d s x y=(vA c r d s && decide (c≤x) && decide (x≤d) && decide (r≤y) && decide (y≤s))):=rfl
 generalize inA c r d s x y=V at *
 generalize vA c r d s=p at *
 go_enter Tryz.func191,Tryz.ntmps191
 go_wp2_with fail
 refine (H1.out _).mono ?_
 rintro e w1 ⟨rfl,hg⟩
 have hcell:=hg.ext.cell
 have G1:Hid (Gr w w1):=G.out.trans hg
 clear hg G
 go_wp2_with fail
 all_goals
  go_ret
  refine ⟨rBool ?_,G1.out⟩
  rw [hV.out]
  clear H1 hV G1 hcell
  cases p <;> (try simp_all) <;> (try omega)
theorem pSize_any (c r d s:Int) (w:World) :
  Calls Tryz.prog 189 #[.agg #[.int .i64 c,.int .i64 r,.int .i64 d,.int .i64 s]] w fun e w'=>e=.returned (.int .i64 (sizeA c r d s))∧Gr w w':=by
 have H1:Hid (∀ w,Calls Tryz.prog 208 #[.agg #[.int .i64 c,.int .i64 r,.int .i64 d,.int .i64 s]] w fun e w'=>e=.returned (.bool (vA c r d s))∧Gr w w'):=pValidArea_any c r d s
 have G:Hid (Gr w (w.alloc (.cells #[.int .i64 c,.int .i64 r,.int .i64 d,.int .i64 s] 134))):=(Gr.refl w).alloc _ _
 have hV:Hid (sizeA c r d s=if vA c r d s then (d - c+1) * (s - r+1) else 0):=rfl
 have hb:=vA_bd c r d s
 generalize sizeA c r d s=V at *
 generalize vA c r d s=p at *
 cases p
 ·clear hb
  go_enter Tryz.func189,Tryz.ntmps189
  go_wp2_with fail
  refine (H1.out _).mono ?_
  rintro e w1 ⟨rfl,hg⟩
  have G1:Hid (Gr w w1):=G.out.trans hg
  clear hg
  go_wp2_with fail
  go_ret
  exact ⟨rInt hV.out.symm,G1.out⟩
 ·obtain ⟨h1,h2,h3,h4,h5,h6⟩:=hb rfl
  obtain ⟨m0,m1⟩:=mul_bd (d - c+1) (s - r+1) (by omega) (by omega) (by omega) (by omega)
  have hV':Hid ((d - c+1) * (s - r+1)=V):=hV.out.symm
  clear hV hb
  go_enter Tryz.func189,Tryz.ntmps189
  go_wp2_with fail
  refine (H1.out _).mono ?_
  rintro e w1 ⟨rfl,hg⟩
  have hcell:=hg.ext.cell
  have G1:Hid (Gr w w1):=G.out.trans hg
  clear hg
  go_wp2_with fail
  go_ret
  exact ⟨rInt hV'.out,G1.out⟩
theorem pCompare_any (a b:Int) (w:World) :
  Calls Tryz.prog 172 #[.int .i64 a,.int .i64 b] w fun e w'=>e=.returned (.int .i64 (cmpI a b))∧w'=w:=by
 have hV:Hid (cmpI a b=if a < b then -1 else if b < a then 1 else 0):=rfl
 generalize cmpI a b=V at *
 go_enter Tryz.func172,Tryz.ntmps172
 go_wp2
 all_goals
  go_ret
  refine ⟨rInt ?_,rfl⟩
  rw [hV.out]
  repeat' split
  all_goals omega
theorem pOr_two (b:Nat) (p q:Int) (w:World) (h0:w.cell? ⟨b,0,none⟩=some (.int .i64 p)) (h1:w.cell? ⟨b,1,none⟩=some (.int .i64 q)) :
  Calls Tryz.prog 171 #[.slice (some ⟨b,0,none⟩) 2 2] w fun e w'=>e=.returned (.int .i64 (if p=0 then q else p))∧w'=w:=by
 have hV:Hid (∀ V,V=(if p=0 then q else p)→V=(if p=0 then q else p)):=fun _ h=>h
 obtain ⟨V,hVV⟩:∃ V,(if p=0 then q else p)=V:=⟨_,rfl⟩
 have HV:Hid ((if p=0 then q else p)=V):=hVV
 rw [hVV]
 clear hV hVV
 go_enter Tryz.func171,Tryz.ntmps171
 go_wp2
 go_loopw [8] (fun i wr=>wr=w∧(i=.int .i64 0∨(i=.int .i64 1∧p=0)∨(i=.int .i64 2∧p=0∧q=0))) (fun i _=>(2 - intOf i).toNat)
 case atStart=>exact ⟨rfl,.inl rfl⟩
 case round=>
  obtain ⟨hw,hc⟩:=hrel
  subst hw
  rcases hc with rfl|⟨rfl,hp⟩|⟨rfl,hp,hq⟩
  ·by_cases hp:p=0
   ·subst hp
    go_wp2
    go_roundw
    case rel=>simp
    case measure=>simp only [intOf];omega
   ·have hV:Hid (p=V):=by show _=_;rw [← HV.out,if_neg hp]
    have hp':(p != 0)=true:=by simpa using hp
    clear HV
    go_wp2
    go_ret
    exact ⟨rInt hV.out,rfl⟩
  ·subst hp
   have hV:Hid (q=V):=by show _=_;rw [← HV.out,if_pos rfl]
   clear HV
   by_cases hq:q=0
   ·subst hq
    go_wp2
    go_roundw
    case rel=>simp
    case measure=>simp only [intOf];omega
   ·have hq':(q != 0)=true:=by simpa using hq
    go_wp2
    go_ret
    exact ⟨rInt hV.out,rfl⟩
  ·subst hp hq
   have hV:Hid (0=V):=by show _=_;rw [← HV.out,if_pos rfl]
   clear HV
   go_wp2
   go_ret
   exact ⟨rInt hV.out,rfl⟩
end Go.Proofs.YtnceajanlnnfoaaGreatDoor
namespace Go.Proofs.YtnceajanlnnfoaaGreatDoor
open Go.ChangeShapes Go.WideShapes Go.RowKit Go.Deep
theorem cellsInt:Tryz.prog.cellsOf 3=1:=by kernel_rfl
theorem cellsBool:Tryz.prog.cellsOf 4=1:=by kernel_rfl
theorem cellsF64:Tryz.prog.cellsOf 50=1:=by kernel_rfl
theorem cellsStr:Tryz.prog.cellsOf 9=1:=by kernel_rfl
theorem cellsAddr:Tryz.prog.cellsOf 57=2:=by kernel_rfl
theorem cellsRef:Tryz.prog.cellsOf 61=4:=by kernel_rfl
theorem cellsNode:Tryz.prog.cellsOf 64=15:=by kernel_rfl
theorem cellsNodes:Tryz.prog.cellsOf 62=1:=by kernel_rfl
theorem cellsValue:Tryz.prog.cellsOf 59=5:=by kernel_rfl
theorem cellsContent:Tryz.prog.cellsOf 66=21:=by kernel_rfl
section
variable {H:Type} {enc:TypeId×Value→H} {w:World} {base:Nat}
theorem trod_f64 {fuel:Nat} {cs:List Value} {x:DataW H×List MemPlace} (h:DataW.trod enc Tryz.prog w base (fun _=>true) true fuel 50 cs=some x):∃ b:Nat,cs=[.float .f64 b]∧(Lit.float .f64 b).wf=true:=by
 have ht:=Tryz.underlying50
 cases fuel with
 | zero=>simp [DataW.trod] at h
 | succ n=>
  unfold DataW.trod at h
  rw [ht] at h
  split at h <;> simp_all
theorem trod_int1 {fuel:Nat} {v:Value} {x:DataW H×List MemPlace} (h:DataW.trod enc Tryz.prog w base (fun _=>true) true fuel 3 [v]=some x):∃ c:Int,v=.int .i64 c:=by
 obtain ⟨c,e,_,_⟩:=DataW.trod_int Tryz.underlying3 h
 exact ⟨c,by simpa using e⟩
theorem trod_addr {fuel:Nat} {v0 v1:Value} {x:DataW H×List MemPlace} (h:DataW.trod enc Tryz.prog w base (fun _=>true) true fuel 57 [v0,v1]=some x) :
  ∃ c r:Int,v0=.int .i64 c∧v1=.int .i64 r:=by
 obtain ⟨y0,y1,n,_,_,h0,h1⟩:=trod_struct2 Tryz.underlying57 h
 simp only [cellsInt,List.drop_zero,List.take_succ_cons,List.take_zero,List.drop_succ_cons] at h0 h1
 obtain ⟨c,rfl⟩:=trod_int1 h0
 obtain ⟨r,rfl⟩:=trod_int1 h1
 exact ⟨c,r,rfl,rfl⟩
theorem trod_ref {fuel:Nat} {v0 v1 v2 v3:Value} {x:DataW H×List MemPlace} (h:DataW.trod enc Tryz.prog w base (fun _=>true) true fuel 61 [v0,v1,v2,v3]=some x) :
  ∃ (c r:Int) (p q:Bool),v0=.int .i64 c∧v1=.int .i64 r∧v2=.bool p∧v3=.bool q:=by
 obtain ⟨xs,n,_,_,_,hlen,hf⟩:=DataW.trod_struct Tryz.underlying61 h
 match xs,hlen with
 | [y0,y1,y2],_=>
  have g0:DataW.trod enc Tryz.prog w base (fun _=>true) true n 57 [v0,v1]=some y0:=by simpa [cellsAddr] using hf 0 _ rfl
  have g1:DataW.trod enc Tryz.prog w base (fun _=>true) true n 4 [v2]=some y1:=by simpa [cellsBool] using hf 1 _ rfl
  have g2:DataW.trod enc Tryz.prog w base (fun _=>true) true n 4 [v3]=some y2:=by simpa [cellsBool] using hf 2 _ rfl
  obtain ⟨c,r,rfl,rfl⟩:=trod_addr g0
  obtain ⟨p,e1,_⟩:=DataW.trod_bool Tryz.underlying4 g1
  obtain ⟨q,e2,_⟩:=DataW.trod_bool Tryz.underlying4 g2
  exact ⟨c,r,p,q,rfl,rfl,by simpa using e1,by simpa using e2⟩
theorem nds_of {F:Nat→Prop} {b:Nat}:∀ (ts:List Nd) (o:Nat),(∀ (i:Nat) (t:Nd),ts[i]? = some t→∃ sl,w.rangeAt b (o+i * 15) (t.hd.cells sl)∧NdIn w F sl t)→NdsIn w F b o ts
 | [],_,_=>by rw [NdsIn];trivial
 | t :: ts,o,h=>by
  rw [NdsIn]
  refine ⟨?_,nds_of ts (o+15) (fun i u hu=>?_)⟩
  ·have:=h 0 t rfl
   rw [Nat.zero_mul,Nat.add_zero] at this
   exact this
  ·have:=h (i+1) u (by simpa using hu)
   rw [show o+(i+1) * 15=o+15+i * 15 by omega] at this
   exact this
instance:Inhabited Nd:=⟨.mk ⟨0,0,0,⟨#[]⟩,false,0,0,0,false,false,0,0,false,false⟩ []⟩
theorem by_each {α:Type} [Inhabited α] {len:Nat} {p:Nat→α→Prop} (h:∀ i,i < len→∃ x,p i x):∃ A:List α,A.length=len∧∀ (i:Nat) (x:α),A[i]? = some x→p i x:=by
 obtain ⟨f,hf⟩:=choose_lt h
 refine ⟨(List.range len).map f,by simp,fun i x hx=>?_⟩
 rw [List.getElem?_map] at hx
 rcases Nat.lt_or_ge i len with hi|hi
 ·rw [List.getElem?_range hi] at hx
  simp only [Option.map_some,Option.some.injEq] at hx
  rw [← hx];exact hf i hi
 ·rw [List.getElem?_eq_none (by simpa using hi)] at hx;cases hx
end
end Go.Proofs.YtnceajanlnnfoaaGreatDoor
