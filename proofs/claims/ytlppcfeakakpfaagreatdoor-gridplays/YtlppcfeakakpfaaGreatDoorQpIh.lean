/- What copying leaves: validity, sameness. No function of the program here. Move: what becomes of references, of formulas, of cells. No function of the program here. Move: a formula in memory of its own, whose references go along: how far the loop has come. No function of the program here. Move: named. Rows of puts. No function of the program here. Get: what it tells lies in memory of its own. -/
import Derived.Test.YtlppcfeakakpfaaGreatDoorQpQl
import Derived.Test.YtlppcfeakakpfaaGreatDoorQpEp
import Derived.Deep.QuietTactic
set_option maxRecDepth 20000
set_option maxHeartbeats 8000000
namespace Go.Proofs.YtlppcfeakakpfaaGreatDoor
open Go.RowKit
theorem plainX_one (x:Nat):plainX (one x)=plainX x:=by
 by_cases h:9218868437227405312 < mag x
 ·have h1:one x=9221120237041090560:=by unfold one;rw [if_pos h]
  have hc:cls x=1:=by unfold cls;rw [if_pos h]
  have e1:plainX x=false:=by unfold plainX;rw [hc];rfl
  have e2:plainX 9221120237041090560=false:=by decide +kernel
  rw [h1,e1,e2]
 ·have h1:one x=x:=by unfold one;rw [if_neg h]
  rw [h1]
theorem fsame_one1 (x y:Nat):fsame (one x) y=fsame x y:=by unfold fsame;rw [one_self]
theorem one_zero (x:Nat):(((one x:Nat):Int) == 0)=((x:Int) == 0):=by
 unfold one
 split
 ·rename_i h
  have hx:x≠0:=fun e=>by subst e;revert h;decide +kernel
  have h1:((x:Int) == 0)=false:=by simpa using hx
  rw [h1];rfl
 ·rfl
theorem hsame_one (h g:Hd):hsame { h with x:=one h.x } g=hsame h g:=by
 unfold hsame
 simp only [fsame_one1]
theorem wmJ_one (h:Hd):hsame { h with x:=one h.x } (wmJ { h with x:=one h.x })=hsame h (wmJ h):=by
 rw [hsame_one]
 unfold wmJ
 simp only
 by_cases k1:h.k=1
 ·simp only [k1,if_true]
  unfold hsame
  simp only [fsame,one_self]
 ·simp only [k1,if_false]
theorem wm_one (h:Hd) (n:Nat):wm { h with x:=one h.x } n=wm h n:=by
 unfold wm
 simp only [wmJ_one,plainX_one]
theorem ownE_one (h:Hd) (n:Nat) (c:Bool):ownE { h with x:=one h.x } n c=ownE h n c:=by
 unfold ownE
 simp only [wm_one]
mutual
theorem fe_cpy:∀ (t:Nd) (c:Bool),(cpy t).fe c=t.fe c
 | .mk h ts,c=>by
  rw [cpy,Nd.fe,Nd.fe,cpyL_len,ownE_one,feL_cpy ts]
theorem feL_cpy:∀ (ts:List Nd) (c:Bool),feL (cpyL ts) c=feL ts c
 | [],c=>by rw [cpyL]
 | t :: ts,c=>by rw [cpyL,feL,feL,fe_cpy t c,feL_cpy ts c]
end
mutual
theorem dep_cpy:∀ t:Nd,(cpy t).dep=t.dep
 | .mk h ts=>by rw [cpy,Nd.dep,Nd.dep,depL_cpy ts]
theorem depL_cpy:∀ ts:List Nd,depL (cpyL ts)=depL ts
 | []=>by rw [cpyL]
 | t :: ts=>by rw [cpyL,depL,depL,dep_cpy t,depL_cpy ts]
end
theorem chk_cpy (t:Nd):chk (cpy t)=chk t:=by unfold chk;rw [cpy_size,dep_cpy,fe_cpy]
mutual
theorem tsame_cpy:∀ (t u:Nd),tsame (cpy t) u=tsame t u
 | .mk h ts,.mk g us=>by rw [cpy,tsame,tsame,hsame_one,lsame_cpy ts us]
theorem lsame_cpy:∀ (ts us:List Nd),lsame (cpyL ts) us=lsame ts us
 | [],us=>by rw [cpyL]
 | t :: ts,[]=>by rw [cpyL,lsame,lsame]
 | t :: ts,u :: us=>by rw [cpyL,lsame,lsame,tsame_cpy t u,lsame_cpy ts us]
end
theorem bareV_one (v:Vl):bareV { v with x:=one v.x }=bareV v:=by
 unfold bareV
 simp only [one_zero]
theorem zeroV_one (v:Vl):zeroV { v with x:=one v.x }=zeroV v:=by
 unfold zeroV
 rw [bareV_one]
theorem validV_one (v:Vl) (u:Bool):validV { v with x:=one v.x } u=validV v u:=by
 unfold validV
 rw [bareV_one]
theorem gv_cp (c:Ct):gv (cpC c)=gv c:=by
 unfold gv validC cpC
 simp only [zeroV_one,validV_one,chk_cpy,zeroN,tsame_cpy]
mutual
theorem cpy_self:∀ t:Nd,cpy (cpy t)=cpy t
 | .mk h ts=>by
  rw [cpy,cpy,cpyL_self ts]
  simp only [one_self]
theorem cpyL_self:∀ ts:List Nd,cpyL (cpyL ts)=cpyL ts
 | []=>by rw [cpyL,cpyL]
 | t :: ts=>by rw [cpyL,cpyL,cpy_self t,cpyL_self ts]
end
theorem cpC_self (c:Ct):cpC (cpC c)=cpC c:=by
 unfold cpC
 simp only [one_self,cpy_self]
theorem hsame_refl (h:Hd):hsame h h=true:=by
 unfold hsame
 simp [fsame_self]
mutual
theorem tsame_refl:∀ t:Nd,tsame t t=true
 | .mk h ts=>by rw [tsame,hsame_refl,lsame_refl ts];rfl
theorem lsame_refl:∀ ts:List Nd,lsame ts ts=true
 | []=>by rw [lsame]
 | t :: ts=>by rw [lsame,tsame_refl t,lsame_refl ts];rfl
end
theorem csame_refl (a:Ct):csame a a=true:=by
 unfold csame vsame
 simp only [beq_self_eq_true,Bool.true_and,fsame_self,tsame_refl,decide_true]
 repeat' split
 all_goals rfl
structure Gd (c:Ct):Prop where
 val:gv c=true
 k:c.k≠0
 ok:c.t.ok
 x:c.v.x < 18446744073709551616
 size:c.t.size≤1048576
 cp:cpC c=c
theorem Gd.of {c:Ct} (hv:gv c=true) (hk:c.k≠0) (ho:c.t.ok) (hx:c.v.x < 18446744073709551616) (hs:c.t.size≤1048576):Gd (cpC c):=
 ⟨by rw [gv_cp];exact hv,hk,cpy_ok _ ho,one_lt _ hx,by show (cpy c.t).size≤_;rw [cpy_size];exact hs,cpC_self c⟩
abbrev Ar4:=(Int×Int)×(Int×Int)
abbrev Fate:=Ar4→Option Ar4
mutual
theorem NdOwn.node {w:World} {sl:Value}:∀ {t:Nd} {fp:List Nat},NdOwn w sl t fp→∀ b∈fp,∃ cs:Array Value,w.heap[b]? = some (.cells cs 44 (0,0))
 | .mk _ ts,fp,h,b,hb=>by
  rw [NdOwn] at h
  rcases h with ⟨_,_,rfl⟩|⟨b',c,fps,cs,_,_,_,_,h5,_,rfl,h8⟩
  ·simp at hb
  ·rcases List.mem_cons.1 hb with rfl|hb
   ·exact ⟨cs,h5⟩
   ·exact NdsOwn.node h8 b hb
theorem NdsOwn.node {w:World} {b':Nat}:∀ {ts:List Nd} {o:Nat} {fp:List Nat},NdsOwn w b' o ts fp→∀ b∈fp,∃ cs:Array Value,w.heap[b]? = some (.cells cs 44 (0,0))
 | [],_,fp,h,b,hb=>by rw [NdsOwn] at h;subst h;simp at hb
 | t :: ts,o,fp,h,b,hb=>by
  rw [NdsOwn] at h
  obtain ⟨sl,f1,f2,_,h2,rfl,h4⟩:=h
  rcases List.mem_append.1 hb with hb|hb
  ·exact NdOwn.node h2 b hb
  ·exact NdsOwn.node h4 b hb
end
theorem node_lt {w:World} {b:Nat} (h:∃ cs:Array Value,w.heap[b]? = some (.cells cs 44 (0,0))):b < w.heap.size:=by
 obtain ⟨cs,h⟩:=h
 exact (Array.getElem?_eq_some_iff.1 h).1
theorem blk_range {w:World} {b:Nat} {cs:List Value} {t:TypeId} (h:Blk w b cs t):w.rangeAt b 0 cs:=fun j v hj=>by
 rw [Nat.zero_add];exact h.cell hj
theorem infoAddr2':(Tryz.prog.info? 36).map (·.size)=some 2:=by kernel_rfl
abbrev ptCells (x:Cc) (sl:Value):List Value:=.int .i64 x.1.1 :: .int .i64 x.1.2 :: x.2.cells sl
def rowP:List (Cc×Value)→List Value
 | []=>[]
 | y :: ys=>ptCells y.1 y.2 ++ rowP ys
theorem pt_len (x:Cc) (sl:Value):(ptCells x sl).length=23:=rfl
theorem rowP_len:∀ ys:List (Cc×Value),(rowP ys).length=ys.length * 23
 | []=>rfl
 | y :: ys=>by rw [rowP,List.length_append,rowP_len ys,pt_len,List.length_cons];omega
theorem rowP_append:∀ (ys zs:List (Cc×Value)),rowP (ys ++ zs)=rowP ys ++ rowP zs
 | [],zs=>rfl
 | y :: ys,zs=>by rw [List.cons_append,rowP,rowP,rowP_append ys zs,List.append_assoc]
theorem rowP_snoc (ys:List (Cc×Value)) (y:Cc×Value):rowP (ys ++ [y])=rowP ys ++ ptCells y.1 y.2:=by
 rw [rowP_append,rowP,rowP,List.append_nil]
theorem rowP_get:∀ (ys:List (Cc×Value)) (i:Nat) (y:Cc×Value),ys[i]? = some y→∀ j v,(ptCells y.1 y.2)[j]? = some v→(rowP ys)[i * 23+j]? = some v
 | [],i,y,h,_,_,_=>by simp at h
 | z :: ys,0,y,h,j,v,hj=>by
  have e:z=y:=by simpa using h
  subst e
  have hl:j < 23:=by have:=(List.getElem?_eq_some_iff.1 hj).1;rw [pt_len] at this;exact this
  rw [rowP,List.getElem?_append_left (by rw [pt_len];omega),Nat.zero_mul,Nat.zero_add]
  exact hj
 | z :: ys,i+1,y,h,j,v,hj=>by
  rw [rowP,List.getElem?_append_right (by rw [pt_len];omega),pt_len,show (i+1) * 23+j - 23=i * 23+j by omega]
  exact rowP_get ys i y (by simpa using h) j v hj
structure Pts (w:World) (B:Nat) (F:Nat→Prop) (v:Value) (ys:List (Cc×Value)):Prop where
 row:w.ownsRow B 84 23 v ys.length (rowP ys)
 tree:∀ y∈ys,NdIn w F y.2 y.1.2.t
theorem Pts.nil (w:World) (B:Nat) (F:Nat→Prop):Pts w B F (.slice none 0 0) []:=⟨World.ownsRow_nil _ _ _ _,fun y h=>by simp at h⟩
theorem Pts.slice {w:World} {B:Nat} {F:Nat→Prop} {v:Value} {ys:List (Cc×Value)} (h:Pts w B F v ys):∃ p c,v=.slice p ys.length c∧(0 < ys.length→∃ b,p=some ⟨b,0,none⟩∧B≤b∧∀ i y,ys[i]? = some y→w.rangeAt b (i * 23) (ptCells y.1 y.2)):=by
 rcases h.row.2 with ⟨rfl,e⟩|⟨g,c,cur,rfl,hB,_⟩
 ·exact ⟨none,0,by rw [e],fun h=>by omega⟩
 ·refine ⟨_,_,rfl,fun _=>⟨g,rfl,hB,fun i y hy j u hj=>?_⟩⟩
  have:=h.row.cells (g:=g) rfl (i * 23+j) u (rowP_get ys i y hy j u hj)
  rw [addr_at,Nat.zero_add] at this
  exact this
theorem Pts.kp {w w':World} {B:Nat} {F:Nat→Prop} {v:Value} {ys:List (Cc×Value)} (h:Pts w B F v ys) (k:Kp w w' Nul):Pts w' B F v ys:=
 ⟨ownsRow_below h.row k.below,fun y hy=>(h.tree y hy).kp k (fun _ _ x=>x)⟩
theorem Pts.km {w w':World} {B g:Nat} {F:Nat→Prop} {v:Value} {ys:List (Cc×Value)} (h:Pts w B F v ys) (k:Km g w w') {mv:Option Nat} (hg:Blk w g [.map mv] 68):Pts w' B F v ys:=by
 refine ⟨⟨h.row.1,?_⟩,fun y hy=>(h.tree y hy).km k hg⟩
 rcases h.row.2 with e|⟨b,c,cur,e1,e2,e3,e4⟩
 ·exact .inl e
 ·have hne:b≠g:=fun e=>by
   subst e
   unfold Blk at hg
   rw [hg] at e3
   simp at e3
  have e3':Blk w b cur.toList 84:=e3
  exact .inr ⟨b,c,cur,e1,e2,k.blk e3' hne,e4⟩
theorem Pts.mono {w:World} {B:Nat} {F F':Nat→Prop} {v:Value} {ys:List (Cc×Value)} (h:Pts w B F v ys) (hF:∀ b,F b→b < w.heap.size→F' b):Pts w B F' v ys:=
 ⟨h.row,fun y hy=>(h.tree y hy).mono (fun b hb hl=>⟨rfl,hF b hb hl⟩)⟩
theorem infoPut:(Tryz.prog.info? 84).map (·.size)=some 23:=by kernel_rfl
theorem infoPutI:∃ i,Tryz.prog.info? 84=some i∧i.zero=some (.agg (.int .i64 0 :: .int .i64 0 :: zC21).toArray)∧i.size=23∧i.bytes=200:=by
 have h:(Tryz.prog.info? 84).map (fun i=>(i.zero,i.size,i.bytes))=some (some (.agg (.int .i64 0 :: .int .i64 0 :: zC21).toArray),23,200):=by kernel_rfl
 cases e:Tryz.prog.info? 84 with
 | none=>rw [e] at h;cases h
 | some i=>
  rw [e] at h
  simp only [Option.map_some,Option.some.injEq,Prod.mk.injEq] at h
  exact ⟨i,rfl,h⟩
theorem pt_one (x:Cc) {sl:Value} (hs:sl.oneCell'=true):∀ u∈ptCells x sl,u.oneCell'=true:=by
 intro u hu
 have:=x.2.one hs
 rw [Array.all_eq_true'] at this
 rcases List.mem_cons.1 hu with rfl|hu
 ·rfl
 ·rcases List.mem_cons.1 hu with rfl|hu
  ·rfl
  ·exact this u (by simpa using hu)
end Go.Proofs.YtlppcfeakakpfaaGreatDoor
namespace Go.Proofs.YtlppcfeakakpfaaGreatDoor
open Go.RowKit Go.Maps
theorem get_own (g:Nat) (c r:Int) (mv:Option Nat) (V:Value) (bb:Bool) (u:Ct) (w:World) (hlk:Lk w g c r mv V bb)
  (hcp:∀ wq,Kp w wq Nul→Calls Tryz.prog 38 #[V] wq fun e w'=>∃ sl' fp,e=.returned (u.val sl')∧Own w' wq.heap.size sl' u.t fp∧Kp wq w' Nul) :
  Calls Tryz.prog 13 #[.pointer (some ⟨g,0,none⟩),.agg #[.int .i64 c,.int .i64 r]] w fun e w'=>∃ sl' fp,e=.returned (u.val sl')∧Own w' w.heap.size sl' u.t fp∧Kp w w' Nul:=by
 obtain ⟨W1,hW1⟩:∃ W1,(w.alloc (.cells #[.int .i64 c,.int .i64 r] 36)).alloc (.cells #[.int .i64 0,.int .i64 0,.float .f64 0,.string ⟨#[]⟩,.bool false,.int .i64 0,.int .i64 0,.int .i64 0,.float .f64 0,.string ⟨#[]⟩,.bool false,.int .i64 0,.int .i64 0,.int .i64 0,.bool false,.bool false,.int .i64 0,.int .i64 0,.bool false,.bool false,.slice none 0 0] 46)=W1:=⟨_,rfl⟩
 have k1:Kp w W1 Nul:=by rw [← hW1];exact ((Kp.refl w Nul).alloc _).alloc _
 have hA1:Blk W1 w.heap.size [.int .i64 c,.int .i64 r] 36:=by rw [← hW1];exact (Blk.new w [.int .i64 c,.int .i64 r] _).alloc _
 have hZ1:Blk W1 (w.heap.size+1) [.int .i64 0,.int .i64 0,.float .f64 0,.string ⟨#[]⟩,.bool false,.int .i64 0,.int .i64 0,.int .i64 0,.float .f64 0,.string ⟨#[]⟩,.bool false,.int .i64 0,.int .i64 0,.int .i64 0,.bool false,.bool false,.int .i64 0,.int .i64 0,.bool false,.bool false,.slice none 0 0] 46:=by
  have:=Blk.new (w.alloc (.cells #[.int .i64 c,.int .i64 r] 36)) [.int .i64 0,.int .i64 0,.float .f64 0,.string ⟨#[]⟩,.bool false,.int .i64 0,.int .i64 0,.int .i64 0,.float .f64 0,.string ⟨#[]⟩,.bool false,.int .i64 0,.int .i64 0,.int .i64 0,.bool false,.bool false,.int .i64 0,.int .i64 0,.bool false,.bool false,.slice none 0 0] 46
  rw [World.size_alloc] at this
  rw [← hW1];exact this
 have hglt:g < w.heap.size:=(Array.getElem?_eq_some_iff.1 hlk.cell).1
 have hg1:Blk W1 g [.map mv] 68:=(k1.block g hglt (fun x=>x)).trans hlk.cell
 have HS:Hid (∀ wq,Kp W1 wq (fun i=>i=w.heap.size+1)→(wq.cell? ⟨w.heap.size,0,none⟩=some (.int .i64 c)∧wq.cell? ⟨w.heap.size,1,none⟩=some (.int .i64 r)∧wq.cell? ⟨g,0,none⟩=some (.map mv)∧(Instr.lookup 66 (.map mv) (.agg #[.int .i64 c,.int .i64 r]) false).run Tryz.prog wq=.ok V wq)):=fun wq k=>⟨(hA1.kp k (by show ¬ w.heap.size=w.heap.size+1;omega)).cell rfl,(hA1.kp k (by show ¬ w.heap.size=w.heap.size+1;omega)).cell rfl,(hg1.kp k (by show ¬ g=w.heap.size+1;omega)).cell rfl,hlk.one wq (fun m hm=>by
  have h2:=(hlk.ne m hm).2
  have h3:=k1.size
  exact (k.block m (by omega) (by show ¬ m=w.heap.size+1;omega)).trans (k1.block m h2 (fun x=>x)))⟩
 have HCp:Hid (∀ wq,Kp W1 wq Nul→Calls Tryz.prog 38 #[V] wq fun e w'=>∃ sl' fp,e=.returned (u.val sl')∧Own w' wq.heap.size sl' u.t fp∧Kp wq w' Nul):=fun wq k=>hcp wq (k1.trans k)
 have HZ:Hid (Blk W1 (w.heap.size+1) [.int .i64 0,.int .i64 0,.float .f64 0,.string ⟨#[]⟩,.bool false,.int .i64 0,.int .i64 0,.int .i64 0,.float .f64 0,.string ⟨#[]⟩,.bool false,.int .i64 0,.int .i64 0,.int .i64 0,.bool false,.bool false,.int .i64 0,.int .i64 0,.bool false,.bool false,.slice none 0 0] 46):=hZ1
 have HW1:Hid ((w.alloc (.cells #[.int .i64 c,.int .i64 r] 36)).alloc (.cells #[.int .i64 0,.int .i64 0,.float .f64 0,.string ⟨#[]⟩,.bool false,.int .i64 0,.int .i64 0,.int .i64 0,.float .f64 0,.string ⟨#[]⟩,.bool false,.int .i64 0,.int .i64 0,.int .i64 0,.bool false,.bool false,.int .i64 0,.int .i64 0,.bool false,.bool false,.slice none 0 0] 46)=W1):=hW1
 have HK1:Hid (Kp w W1 Nul):=k1
 clear hW1 k1 hA1 hZ1 hg1 hlk hcp hglt
 go_enter Tryz.func13,Tryz.ntmps13
 go_wp2_with fail
 rw [HW1.out]
 clear HW1
 refine wp_region_noPanic ?_
 refine wp_region_hel (fun w':World=>Kp W1 w' (fun i=>i=w.heap.size+1)) (by kernel_rfl) ((Kp.refl W1 _).drew) (fun hHeld=>?_)
 have tok0:True:=trivial
 have tok1:True:=trivial
 have tok2:True:=trivial
 have tok3:True:=trivial
 have tok4:True:=trivial
 have tok5:True:=trivial
 iterate 6 ((first|(clear tok0;refine wpH_takes (i:=0) (v:=?_) (some 8) rfl rfl (by kernel_rfl) (by kernel_rfl) (by kernel_rfl) (fun _ _ _ h=>h) (Or.inl ⟨by rfl,?_⟩) hHeld ?_)|(clear tok1;refine wpH_takes (i:=1) (v:=?_) (some 9) rfl rfl (by kernel_rfl) (by kernel_rfl) (by kernel_rfl) (fun _ _ _ h=>h) (Or.inl ⟨by rfl,?_⟩) hHeld ?_)|(clear tok2;refine wpH_takes (i:=2) (v:=?_) (some 10) rfl rfl (by kernel_rfl) (by kernel_rfl) (by kernel_rfl) (fun _ _ _ h=>h) (Or.inl ⟨by rfl,?_⟩) hHeld ?_)|(clear tok3;refine wpH_takes (i:=3) (v:=?_) (some 11) rfl rfl (by kernel_rfl) (by kernel_rfl) (by kernel_rfl) (fun _ _ _ h=>h) (Or.inl ⟨by rfl,?_⟩) hHeld ?_)|(clear tok4;refine wpH_takes (i:=4) (v:=?_) (some 12) rfl rfl (by kernel_rfl) (by kernel_rfl) (by kernel_rfl) (fun _ _ _ h=>h) (Or.inl ⟨by rfl,?_⟩) hHeld ?_)|(clear tok5;refine wpH_takes (i:=5) (v:=?_) (some 13) rfl rfl (by kernel_rfl) (by kernel_rfl) (by kernel_rfl) (fun _ _ _ h=>h) (Or.inl ⟨by rfl,?_⟩) hHeld ?_));rotate_left;(· intro w hSw;obtain ⟨s0,s1,s2,s3⟩:=HS.out _ hSw;clear hSw;go_simp;try with_reducible rfl);simp only [Act.put,List.setIfInBounds_toArray,List.set_cons_zero,List.set_cons_succ])
 refine wpH_step (i:=6) (by kernel_rfl) rfl rfl (fun K hK=>?_)
 go_simp
 refine (HCp.out _ (Kp.refl W1 Nul).drew).mono ?_
 rintro e w4 ⟨sl',fp,rfl,hown,hk4⟩
 have hk14:Kp W1 w4 Nul:=(Kp.refl W1 Nul).drew.trans hk4
 have hone:=hown.own.one
 refine hK.out _ _ hk14.of_nul (fun hHeld2=>?_)
 clear hK K hk4
 have hZ4:=HZ.out.kp hk14 (fun x=>x)
 refine wpH_step (i:=7) (by kernel_rfl) rfl rfl (fun K hK=>?_)
 refine wp_store_mid 46 (.tmp 4) (.tmp 14) rfl (w.heap.size+1) 0 (u.cells sl').toArray rfl rfl (there_of_block hZ4 _ _ (by simp)) infoContent (u.one hone) ?_
 obtain ⟨W5,hW5⟩:∃ W5,w4.setCells (w.heap.size+1) 0 (u.cells sl')=W5:=⟨_,rfl⟩
 have k45:Kp w4 W5 (fun i=>i=w.heap.size+1):=by rw [← hW5];exact setCells_kp (fun i=>i=w.heap.size+1) rfl _ _ _
 have hB5:W5.heap[w.heap.size+1]? = some (.cells (u.cells sl').toArray 46 (0,0)):=by
  rw [← hW5]
  exact heap_setCells_whole (cs:=(u.cells sl').toArray) hZ4 rfl
 show K _ (w4.setCells (w.heap.size+1) 0 (u.cells sl'))
 rw [hW5]
 refine hK.out _ _ (hk14.of_nul.trans k45) (fun _=>?_)
 have HOW:Hid (Own W5 w.heap.size sl' u.t fp):=by
  have hz:w.heap.size+1 < W1.heap.size:=HZ.out.lt
  have hnew:∀ b∈fp,w.heap.size+1 < b∧b < w4.heap.size:=fun b hb=>by
   have h1:=(hown.new b hb).1
   have h2:W1.drew.heap.size=W1.heap.size:=rfl
   exact ⟨by omega,(hown.new b hb).2⟩
  refine ⟨hown.own.mono (fun b hb=>?_),hown.nodup,fun b hb=>?_⟩
  ·rw [← hW5,heap_setCells_ne (by have:=(hnew b hb).1;omega)]
  ·rw [← hW5,size_setCells]
   exact ⟨by have:=(hnew b hb).1;omega,(hnew b hb).2⟩
 have HEND:Hid (Kp w W5 Nul):=(HK1.out.trans hk14).trans' k45 (fun i hi e=>by have:i=w.heap.size+1:=e;omega)
 clear hK K hHeld hHeld2 hk14 k45 hone hZ4 hW5 hown
 refine wpAnyH_done (by kernel_rfl) ?_ _
 refine NoPanic.normal ?_
 go_wp2_with fail
 refine bodyPost_ret (results_cell_row rfl _ _ (w.heap.size+1) 46 _ (0,0) _ rfl hB5 Tryz.underlying46 rfl infoContent) rfl ?_
 exact ⟨_,_,rfl,HOW.out,HEND.out⟩
end Go.Proofs.YtlppcfeakakpfaaGreatDoor
