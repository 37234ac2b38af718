/- GridPlays: within: All tells what there was when the range began. By wip/gen_psa.py. -/
import Derived.Test.YtlppcfeakakpfaaGreatDoorQpPru
import Derived.Deep.CutRange
import Derived.Deep.DeepCutAuto
set_option maxRecDepth 20000
set_option maxHeartbeats 16000000
namespace Go.Proofs.YtlppcfeakakpfaaGreatDoor
open Go.RowKit Go.Maps Go.Sort Go.Lib Go.Shelf
attribute [local go_sem] Oper.semAt_some
section
variable {P:Program} {ops:Array Oper} {Q:Exit→Act→World→Prop} {md:Region.Mode} {S:World→Prop}
theorem wpH_fork17 {i j:Nat} {oi oj:Oper} {n:Nat} {on:Array Bool} {a:Act} {w:World} (hr:Region.ready md ops on=[i,j]) (hoi:ops[i]? = some oi) (hoj:ops[j]? = some oj) (hgi:oi.guard=none) (hgj:oj.guard=none)
  (h1:∀ K':Act→World→Prop,Hid (∀ a w,S w→(S w→wpAnyH P md ops Q S n (on.setIfInBounds i true) a w)→K' a w)→oi.wp P a w K' Q)
  (h2:∀ K':Act→World→Prop,Hid (∀ a w,S w→(S w→wpAnyH P md ops Q S n (on.setIfInBounds j true) a w)→K' a w)→oj.wp P a w K' Q):wpAnyH P md ops Q S (n+1) on a w:=by
 refine wpAnyH_all hr (by simp) (fun k hk=>?_)
 rcases List.mem_cons.1 hk with rfl|hk
 ·unfold wpOp
  rw [hoi]
  simp only [Region.wanted,hgi,if_true]
  exact .inl (h1 _ (fun a w hS hW=>⟨hS,hW hS⟩))
 ·obtain rfl:=List.mem_singleton.1 hk
  unfold wpOp
  rw [hoj]
  simp only [Region.wanted,hgj,if_true]
  exact .inl (h2 _ (fun a w hS hW=>⟨hS,hW hS⟩))
end
def Off (w:World) (S:Nat→Prop):Prop:=∀ i,S i→(∃ x,w.heap[i]? = some (.deferred x))∨∃ x,w.heap[i]? = some (.loop x)
theorem Off.cells {w:World} {S:Nat→Prop} (h:Off w S) {i:Nat} {cs:Array Value} {t:TypeId} {f:Nat×Nat} (hc:w.heap[i]? = some (.cells cs t f)):¬ S i:=fun q=>by
 rcases h i q with ⟨x,e⟩|⟨x,e⟩
 ·rw [e] at hc;cases hc
 ·rw [e] at hc;cases hc
theorem NdIn.stay {w w':World} {F S:Nat→Prop} {sl:Value} {t:Nd} (h:NdIn w F sl t) (k:Kp w w' S) (hS:Off w S):NdIn w' F sl t:=
 h.monoC fun i hi hc=>by
  obtain ⟨o,q,x,hc⟩:=hc
  obtain ⟨cs,ty,f,e1,e2⟩:=cells_of_int hc
  exact ⟨k.block i (cell_lt hc) (hS.cells e1),hi⟩
theorem GridIn.stay {w w':World} {F S:Nat→Prop} {g:Nat} {L:List Cc} (h:GridIn w F g L) (k:Kp w w' S) (hS:Off w S):GridIn w' F g L:=by
 obtain ⟨hg,⟨hbk,rfl⟩|⟨m,D,hbk,hFm,hn,hown,hm⟩⟩:=h
 ·exact ⟨hg,.inl ⟨(k.block g (Array.getElem?_eq_some_iff.1 hbk).1 (hS.cells hbk)).trans hbk,rfl⟩⟩
 ·have hmb:¬ S m:=fun q=>by
   obtain ⟨es,clock,h1,_⟩:=hown
   rcases hS m q with ⟨x,e⟩|⟨x,e⟩
   ·rw [e] at h1;cases h1
   ·rw [e] at h1;cases h1
  exact ⟨hg,.inr ⟨m,D,(k.block g (Array.getElem?_eq_some_iff.1 hbk).1 (hS.cells hbk)).trans hbk,hFm,hn,ownsMap_block hown (k.block m hown.lt hmb),⟨hm.size,hm.rng,hm.keys,fun c r ct hc=>by obtain ⟨sl,e1,e2⟩:=hm.vals c r ct hc;exact ⟨sl,e1,e2.stay k hS⟩,hm.once⟩⟩⟩
theorem DG.stay {w w':World} {B r:Nat} {S:Nat→Prop} {v:Value} {ys:List (Cc×Value)} (h:DG w B r v ys) (k:Kp w w' S) (hS:Off w S):DG w' B r v ys:=by
 refine ⟨h.box.kp k (hS.cells h.box),⟨h.pts.row.1,?_⟩,fun y hy=>(h.pts.tree y hy).stay k hS⟩
 rcases h.pts.row.2 with q|⟨g,c,cur,e1,e2,e3,rest⟩
 ·exact .inl q
 ·exact .inr ⟨g,c,cur,e1,e2,(k.block g (Array.getElem?_eq_some_iff.1 e3).1 (hS.cells e3)).trans e3,rest⟩
theorem PlayS.stay {W W':World} {S:Nat→Prop} {B xw bg br:Nat} {g r:Nat→Nat} {L K:Nat→List Cc} {v:Nat→Value} {ys:Nat→List (Cc×Value)} (h:PlayS W B xw bg br g r L K v ys) (k:Kp W W' S) (hS:Off W S):PlayS W' B xw bg br g r L K v ys:=
 ⟨h.gg.keep k (fun j hj=>by obtain ⟨mv,hb⟩:=(h.gg.g0 hj).blk;exact hS.cells hb) (fun j hj=>(h.gg.gi j hj).stay k hS),⟨fun j hj=>(h.dd.dg j hj).stay k hS,h.dd.ne,h.dd.lo⟩,h.pp.keep k (hS.cells h.pp.xs) (hS.cells h.pp.gs) (hS.cells h.pp.rs),h.kk⟩
theorem PlayS.off {W W':World} {B xw bg br b:Nat} {g r:Nat→Nat} {L K:Nat→List Cc} {v:Nat→Value} {ys:Nat→List (Cc×Value)} {q:Bool} (h:PlayS W B xw bg br g r L K v ys) (k:Kp W W' (fun i=>i=b)) (hb:Blk W b [.bool q] 4):PlayS W' B xw bg br g r L K v ys:=by
 have hp:Plain #[.bool q]:=fun i v h=>by
  have e:v=.bool q:=by
   rcases Array.getElem?_eq_some_iff.1 h with ⟨hi,rfl⟩
   have:i=0:=by simp at hi;exact hi
   subst this
   rfl
  subst e
  exact ⟨(fun _ _ q=>nomatch q),(fun _ q=>nomatch q)⟩
 exact ⟨h.gg.off k hb hp,h.dd.off k hb hp (by decide) (fun j hj=>Blk.ne (h.dd.dg j hj).box hb (by decide)),h.pp.keep k (Blk.ne h.pp.xs hb (by decide)) (Blk.ne h.pp.gs hb (by decide)) (Blk.ne h.pp.rs hb (by decide)),h.kk⟩
structure LdW (W:World) (a xw bg br:Nat) (g r:Nat→Nat) (k:Nat) (on nn c s:Int) (ct:Ct) (sl:Value) (m1 m2 m3 m4:Int):Prop where
 b0:Blk W a [.pointer (some ⟨xw,0,none⟩)] 24
 b1:Blk W (a+1) [.int .i64 (k:Nat)] 3
 b2:Blk W (a+1+1) (opC on 8 nn c s ct sl m1 m2 m3 m4) 50
 pa:PPa W xw bg br g r
structure WhS (w0:World) (B xw bg br:Nat) (g r:Nat→Nat) (k a b7 bn rn:Nat) (vn:Value) (zs:List (Cc×Value)) (on nn c s:Int) (ct:Ct) (sl:Value) (m1 m2 m3 m4:Int) (j:Nat) (W:World):Prop where
 pl:∃ L K v ys,PlayS W B xw bg br g r L K v ys
 dn:DG W 0 rn vn zs
 b0:Blk W a [.pointer (some ⟨xw,0,none⟩)] 24
 b1:Blk W (a+1) [.int .i64 (k:Nat)] 3
 b2:Blk W (a+1+1) (opC on 8 nn c s ct sl m1 m2 m3 m4) 50
 b3:Blk W (a+1+1+1) [.bool false] 4
 b7:Blk W b7 [.pointer (some ⟨rn,0,none⟩)] 28
 bn:Blk W bn [.int .i64 (j:Nat)] 3
 kp:Kp w0 W Nul
theorem WhS.stay {w0:World} {B xw bg br:Nat} {g r:Nat→Nat} {k a b7 bn rn:Nat} {vn:Value} {zs:List (Cc×Value)} {on nn c s:Int} {ct:Ct} {sl:Value} {m1 m2 m3 m4:Int} {j:Nat} {W W':World} {S:Nat→Prop} (h:WhS w0 B xw bg br g r k a b7 bn rn vn zs on nn c s ct sl m1 m2 m3 m4 j W) (q:Kp W W' S) (hS:Off W S) (hw:∀ i,i < w0.heap.size → ¬ S i):WhS w0 B xw bg br g r k a b7 bn rn vn zs on nn c s ct sl m1 m2 m3 m4 j W':=by
 obtain ⟨L,K,v,ys,hp⟩:=h.pl
 exact ⟨⟨L,K,v,ys,hp.stay q hS⟩,h.dn.stay q hS,h.b0.kp q (hS.cells h.b0),h.b1.kp q (hS.cells h.b1),h.b2.kp q (hS.cells h.b2),h.b3.kp q (hS.cells h.b3),h.b7.kp q (hS.cells h.b7),h.bn.kp q (hS.cells h.bn),h.kp.trans' q (fun i hi e=>(hw i hi e).elim)⟩
theorem WhS.nul {w0:World} {B xw bg br:Nat} {g r:Nat→Nat} {k a b7 bn rn:Nat} {vn:Value} {zs:List (Cc×Value)} {on nn c s:Int} {ct:Ct} {sl:Value} {m1 m2 m3 m4:Int} {j:Nat} {W W':World} (h:WhS w0 B xw bg br g r k a b7 bn rn vn zs on nn c s ct sl m1 m2 m3 m4 j W) (q:Kp W W' Nul):WhS w0 B xw bg br g r k a b7 bn rn vn zs on nn c s ct sl m1 m2 m3 m4 j W':=h.stay q (fun _ e=>e.elim) (fun _ _ e=>e)
theorem WhS.ld {w0:World} {B xw bg br:Nat} {g r:Nat→Nat} {k a b7 bn rn:Nat} {vn:Value} {zs:List (Cc×Value)} {on nn c s:Int} {ct:Ct} {sl:Value} {m1 m2 m3 m4:Int} {j:Nat} {W:World} (h:WhS w0 B xw bg br g r k a b7 bn rn vn zs on nn c s ct sl m1 m2 m3 m4 j W):LdW W a xw bg br g r k on nn c s ct sl m1 m2 m3 m4:=by
 obtain ⟨L,K,v,ys,hp⟩:=h.pl
 exact ⟨h.b0,h.b1,h.b2,hp.pp.at'⟩
def WhI (w0:World) (B xw bg br:Nat) (g r:Nat→Nat) (k a b7 bn rn:Nat) (vn:Value) (zs:List (Cc×Value)) (on nn c s:Int) (ct:Ct) (sl:Value) (m1 m2 m3 m4:Int) (w6:World) (j:Nat) (Z:Nat→Prop) (W:World):Prop:=(∀ W',Kp W W' (fun i=>i=w6.heap.size∨i=w6.heap.size+1)→WhS w0 B xw bg br g r k a b7 bn rn vn zs on nn c s ct sl m1 m2 m3 m4 j W')∧(∀ i,Z i ↔ i=bn∨i=r k∨i=g k∨W.heap[g k]? = some (.cells #[.map (some i)] 68 (0,0)))∧∀ m,W.heap[g k]? = some (.cells #[.map (some m)] 68 (0,0))→w6.heap[g k]? = some (.cells #[.map (some m)] 68 (0,0))∨w6.heap.size+2≤m
theorem NdIn.num {w w':World} {F:Nat→Prop} {sl:Value} {t:Nd} {b:Nat} {x:Value} {ty:TypeId} (h:NdIn w F sl t) (k:Kp w w' (fun i=>i=b)) (hb:Blk w b [x] ty):NdIn w' F sl t:=by
 refine NdIn.monoR (fun i hi hq=>⟨?_,hi⟩) h
 obtain ⟨o,hd,s,hq⟩:=hq
 have hc:w.cell? ⟨i,o+14,none⟩=some s:=hq 14 s rfl
 refine k.block i (cell_lt hc) (fun e=>?_)
 have e':i=b:=e
 subst e'
 rw [hb.at'] at hc
 simp at hc
theorem GridIn.num {w w':World} {F:Nat→Prop} {g b:Nat} {L:List Cc} {x:Int} (h:GridIn w F g L) (k:Kp w w' (fun i=>i=b)) (hb:Blk w b [.int .i64 x] 3):GridIn w' F g L:=by
 have hne:∀ (i:Nat) (mv:Option Nat),w.heap[i]? = some (.cells #[.map mv] 68 (0,0)) → ¬ i=b:=fun i mv hi=>Blk.ne (cs:=[.map mv]) hi hb (by decide)
 obtain ⟨hg,⟨hbk,rfl⟩|⟨m,D,hbk,hFm,hn,hown,hm⟩⟩:=h
 ·exact ⟨hg,.inl ⟨(k.block g (Array.getElem?_eq_some_iff.1 hbk).1 (hne g _ hbk)).trans hbk,rfl⟩⟩
 ·have hmb:¬ m=b:=fun e=>by
   subst e
   exact map_no_cells hown _ _ _ hb
  exact ⟨hg,.inr ⟨m,D,(k.block g (Array.getElem?_eq_some_iff.1 hbk).1 (hne g _ hbk)).trans hbk,hFm,hn,ownsMap_block hown (k.block m hown.lt hmb),⟨hm.size,hm.rng,hm.keys,fun c r ct hc=>by obtain ⟨sl,e1,e2⟩:=hm.vals c r ct hc;exact ⟨sl,e1,e2.num k hb⟩,hm.once⟩⟩⟩
theorem DG.num {w w':World} {B r b:Nat} {v:Value} {ys:List (Cc×Value)} {x:Int} (h:DG w B r v ys) (k:Kp w w' (fun i=>i=b)) (hb:Blk w b [.int .i64 x] 3):DG w' B r v ys:=by
 refine ⟨h.box.kp k (Blk.ne h.box hb (by decide)),⟨h.pts.row.1,?_⟩,fun y hy=>(h.pts.tree y hy).num k hb⟩
 rcases h.pts.row.2 with q|⟨g,c,cur,e1,e2,e3,rest⟩
 ·exact .inl q
 ·refine .inr ⟨g,c,cur,e1,e2,(k.block g (Array.getElem?_eq_some_iff.1 e3).1 (fun e=>?_)).trans e3,rest⟩
  have e':g=b:=e
  subst e'
  have q:=hb.symm.trans e3
  injection q with q
  injection q with _ h2 _
  exact absurd h2 (by decide)
theorem PlayS.num {W W':World} {B xw bg br b:Nat} {g r:Nat→Nat} {L K:Nat→List Cc} {v:Nat→Value} {ys:Nat→List (Cc×Value)} {x:Int} (h:PlayS W B xw bg br g r L K v ys) (k:Kp W W' (fun i=>i=b)) (hb:Blk W b [.int .i64 x] 3):PlayS W' B xw bg br g r L K v ys:=
 ⟨h.gg.keep k (fun j hj=>by obtain ⟨mv,hg⟩:=(h.gg.g0 hj).blk;exact Blk.ne hg hb (by decide)) (fun j hj=>(h.gg.gi j hj).num k hb),⟨fun j hj=>(h.dd.dg j hj).num k hb,h.dd.ne,h.dd.lo⟩,h.pp.keep k (Blk.ne h.pp.xs hb (by decide)) (Blk.ne h.pp.gs hb (by decide)) (Blk.ne h.pp.rs hb (by decide)),h.kk⟩
theorem WhS.bump {w0:World} {B xw bg br:Nat} {g r:Nat→Nat} {k a b7 bn rn:Nat} {vn:Value} {zs:List (Cc×Value)} {on nn c s:Int} {ct:Ct} {sl:Value} {m1 m2 m3 m4:Int} {j:Nat} {W X:World} (h:WhS w0 B xw bg br g r k a b7 bn rn vn zs on nn c s ct sl m1 m2 m3 m4 j W) (q:Kp W X (fun i=>i=bn)) (hb:Blk X bn [.int .i64 ((j:Int)+1)] 3) (hb1:¬ a+1=bn) (hw:∀ i,i < w0.heap.size→i≠bn):WhS w0 B xw bg br g r k a b7 bn rn vn zs on nn c s ct sl m1 m2 m3 m4 (j+1) X:=by
 obtain ⟨L,K,v,ys,hp⟩:=h.pl
 have hne:∀ {b:Nat} {cs:List Value} {t:TypeId},Blk W b cs t→t ≠ 3 → ¬ b=bn:=fun hb ht=>Blk.ne hb h.bn ht
 refine ⟨⟨L,K,v,ys,hp.num q h.bn⟩,h.dn.num q h.bn,h.b0.kp q (hne h.b0 (by decide)),h.b1.kp q hb1,h.b2.kp q (hne h.b2 (by decide)),h.b3.kp q (hne h.b3 (by decide)),h.b7.kp q (hne h.b7 (by decide)),hb,h.kp.trans' q (fun i hi e=>hw i hi e)⟩
theorem plain_ptr1 {p:Option Addr}:Plain #[.pointer p]:=fun i v h=>by
 have e:v=.pointer p:=by
  rcases Array.getElem?_eq_some_iff.1 h with ⟨hi,rfl⟩
  have:i=0:=by simp at hi;exact hi
  subst this
  rfl
 subst e
 exact ⟨(fun _ _ q=>nomatch q),(fun _ q=>nomatch q)⟩
theorem within17 (w0 w:World) (B xw bg br:Nat) (g r:Nat→Nat) (L K:Nat→List Cc) (v:Nat→Value) (ys:Nat→List (Cc×Value)) (k:Nat) (hk:k < 2) (on nn c s:Int) (ct:Ct) (sl:Value) (m1 m2 m3 m4:Int) (hP:PlayS w B xw bg br g r L K v ys) (hO:OpIn w0 B on nn c s ct sl) (hw:Kp w0 w Nul) :
  Calls Tryz.prog 33 #[.pointer (some ⟨xw,0,none⟩),.int .i64 (k:Nat),.agg (opC on 8 nn c s ct sl m1 m2 m3 m4).toArray] w (StR w0 B xw bg br):=by
 obtain ⟨a,ha⟩:∃ a,w.heap.size=a:=⟨_,rfl⟩
 obtain ⟨W1,hW1⟩:∃ W1,(((w.alloc (.cells #[.pointer (some ⟨xw,0,none⟩)] 24)).alloc (.cells #[.int .i64 (k:Nat)] 3)).alloc (.cells (opC on 8 nn c s ct sl m1 m2 m3 m4).toArray 50)).alloc (.cells #[.bool false] 4)=W1:=⟨_,rfl⟩
 have HW1:Hid ((((w.alloc (.cells #[.pointer (some ⟨xw,0,none⟩)] 24)).alloc (.cells #[.int .i64 (k:Nat)] 3)).alloc (.cells (opC on 8 nn c s ct sl m1 m2 m3 m4).toArray 50)).alloc (.cells #[.bool false] 4)=W1):=hW1
 have k1:Kp w W1 Nul:=by rw [← hW1];exact ((((Kp.refl w Nul).alloc _).alloc _).alloc _).alloc _
 have HP:Hid (PlayS W1 B xw bg br g r L K v ys):=hP.nul k1
 have HK:Hid (Kp w0 W1 Nul):=hw.trans k1
 have HO:Hid (OpIn w0 B on nn c s ct sl):=hO
 have HB1:Hid (B≤W1.heap.size):=by show _≤_;have h1:=hP.pp.lo.1;have h2:=HP.out.pp.xs.lt;omega
 have HS1:Hid (W1.heap.size=a+4):=by show _=_;rw [← hW1,World.size_alloc,World.size_alloc,World.size_alloc,World.size_alloc,ha]
 have q0:Blk W1 a [.pointer (some ⟨xw,0,none⟩)] 24:=by rw [← hW1,← ha];exact (((Blk.new w _ _).alloc _).alloc _).alloc _
 have q1:Blk W1 (a+1) [.int .i64 (k:Nat)] 3:=by
  have h:=Blk.new (w.alloc (.cells #[.pointer (some ⟨xw,0,none⟩)] 24)) [.int .i64 (k:Nat)] 3
  rw [World.size_alloc,ha] at h
  rw [← hW1];exact (h.alloc _).alloc _
 have q2:Blk W1 (a+1+1) (opC on 8 nn c s ct sl m1 m2 m3 m4) 50:=by
  have h:=Blk.new ((w.alloc (.cells #[.pointer (some ⟨xw,0,none⟩)] 24)).alloc (.cells #[.int .i64 (k:Nat)] 3)) (opC on 8 nn c s ct sl m1 m2 m3 m4) 50
  rw [World.size_alloc,World.size_alloc,ha] at h
  rw [← hW1];exact h.alloc _
 have HB3:Hid (Blk W1 (a+1+1+1) [.bool false] 4):=by
  have h:=Blk.new (((w.alloc (.cells #[.pointer (some ⟨xw,0,none⟩)] 24)).alloc (.cells #[.int .i64 (k:Nat)] 3)).alloc (.cells (opC on 8 nn c s ct sl m1 m2 m3 m4).toArray 50)) [.bool false] 4
  rw [World.size_alloc,World.size_alloc,World.size_alloc,ha] at h
  show Blk _ _ _ _
  rw [← hW1];exact h
 have HL1:Hid (LdW W1 a xw bg br g r k on nn c s ct sl m1 m2 m3 m4):=⟨q0,q1,q2,HP.out.pp.at'⟩
 have HLn:Hid (∀ wq,Kp W1 wq Nul→LdW wq a xw bg br g r k on nn c s ct sl m1 m2 m3 m4):=fun wq q=>⟨q0.kp q (fun x=>x),q1.kp q (fun x=>x),q2.kp q (fun x=>x),(HP.out.pp.nul q).at'⟩
 have HA0:Hid (w0.heap.size≤a):=by show _≤_;rw [← ha];exact hw.size
 have HKK:Hid (k < 2∧(0:Int)≤(k:Int)∧(k:Int) < 2):=⟨hk,by omega,by omega⟩
 obtain ⟨zs,hzs⟩:∃ zs,ys k=zs:=⟨_,rfl⟩
 have hzl:zs.length≤4096:=by rw [← hzs];have h1:=(HP.out.kk.al k hk).len;have h2:=(HP.out.gg.ok k hk).len;have h3:=congrArg List.length (HP.out.kk.ks k hk);rw [List.length_map] at h3;omega
 have HZs:Hid (zs.map (·.1)=K k∧zs.length≤4096):=⟨by rw [← hzs];exact HP.out.kk.ks k hk,hzl⟩
 have HRCl:Hid (∀ wq,Kp W1 wq Nul→Calls Tryz.prog 27 #[.pointer (some ⟨r k,0,none⟩)] wq fun e w'=>∃ rn vn,e=.returned (.pointer (some ⟨rn,0,none⟩))∧W1.heap.size≤rn∧DG w' 0 rn vn zs∧Kp wq w' Nul):=fun wq q=>by
  have h:=rclone_at B (r k) (v k) (ys k) wq ((HP.out.dd.dg k hk).kp q) (by rw [hzs];exact hzl)
  rw [hzs] at h
  refine h.mono ?_
  rintro e w' ⟨rn,vn,h1,h2,h3,h4⟩
  exact ⟨rn,vn,h1,Nat.le_trans q.size h2,h3.down (Nat.zero_le _),h4⟩
 have HAll:Hid (∀ wq,Calls Tryz.prog 9 #[.pointer (some ⟨g k,0,none⟩)] wq fun e w'=>∃ x0 x1,e=.returned (.func (.func 47) #[] #[.pointer (some ⟨x0,0,none⟩),.pointer (some ⟨x1,0,none⟩)])∧Blk w' x0 [.pointer (some ⟨g k,0,none⟩)] 25∧Blk w' x1 [.int .i64 1,.int .i64 1,.int .i64 256,.int .i64 4096] 48∧Kp wq w' Nul):=fun wq=>all_at (g k) wq
 have HPk3:Hid (∀ wq,Calls Tryz.prog 17 #[.int .i64 nn,.int .i64 3] wq fun e w'=>e=.returned (.int .i64 (pkf nn 3:Nat))∧w'=wq):=fun wq=>pick_n nn 3 hO.nn (by decide) wq
 generalize hNN:pkf nn 3=n3 at *
 generalize hOC:(opC on 8 nn c s ct sl m1 m2 m3 m4).toArray=oc at *
 clear hP hO hw hW1 k1 q0 q1 q2 hzs hzl hNN hOC
 refine (callsIn_wide (n:=12)).1 ?_
 refine callsIn_of_wp_marks Tryz.func33 rfl trivial ?_ rfl
 simp only [Tryz.ntmps33,List.size_toArray,List.length_cons,List.length_nil,Nat.reduceAdd,Nat.reduceSub,Array.replicate_succ,Array.replicate_zero,List.push_toArray,List.append_toArray,List.nil_append,List.cons_append]
 refine wpIn_wide.2 ?_
 go_upto_region 1 with fail
 rw [HW1.out]
 clear HW1 ha
 go_cut [7] from 13 to 20 (fun s wx=>∃ b7 rn vn,s=.pointer (some ⟨b7,0,none⟩)∧Blk wx b7 [.pointer (some ⟨rn,0,none⟩)] 28∧DG wx 0 rn vn zs∧W1.heap.size≤rn∧W1.heap.size≤b7∧Kp W1 wx Nul)
 case first=>
  refine wp_region_noPanic ?_
  refine wp_region_hel (fun w':World=>Kp W1 w' Nul) (by kernel_rfl) ((Kp.refl _ _).drew) (fun hHeld=>?_)
  refine wpH_takes (i:=0) (v:=.pointer (some ⟨xw,0,none⟩)) (some 13) rfl rfl (by kernel_rfl) (by kernel_rfl) (by kernel_rfl) (fun _ _ _ h=>h) (Or.inl ⟨by rfl,?_⟩) hHeld ?_
  ·intro w' hSw;have s0:=(HLn.out w' hSw).b0.cell (i:=0) rfl;clear hSw;go_simp
  simp only [Act.put,List.setIfInBounds_toArray,List.set_cons_zero,List.set_cons_succ]
  refine wpH_takes (i:=1) (v:=.pointer (some ⟨xw,0,none⟩)) (some 14) rfl rfl (by kernel_rfl) (by kernel_rfl) (by kernel_rfl) (fun _ _ _ h=>h) (Or.inl ⟨by rfl,?_⟩) hHeld ?_
  ·intro w' hSw;clear hSw;go_simp
  simp only [Act.put,List.setIfInBounds_toArray,List.set_cons_zero,List.set_cons_succ]
  refine wpH_takes (i:=2) (v:=.pointer (some ⟨xw,1,none⟩)) (some 15) rfl rfl (by kernel_rfl) (by kernel_rfl) (by kernel_rfl) (fun _ _ _ h=>h) (Or.inl ⟨by rfl,?_⟩) hHeld ?_
  ·intro w' hSw;clear hSw;go_simp
  simp only [Act.put,List.setIfInBounds_toArray,List.set_cons_zero,List.set_cons_succ]
  refine wpH_takes (i:=3) (v:=.slice (some ⟨br,0,none⟩) 2 2) (some 16) rfl rfl (by kernel_rfl) (by kernel_rfl) (by kernel_rfl) (fun _ _ _ h=>h) (Or.inl ⟨by rfl,?_⟩) hHeld ?_
  ·intro w' hSw;have s0:=(HLn.out w' hSw).pa.x1;clear hSw;go_simp
  simp only [Act.put,List.setIfInBounds_toArray,List.set_cons_zero,List.set_cons_succ]
  refine wpH_takes (i:=4) (v:=.int .i64 (k:Nat)) (some 17) rfl rfl (by kernel_rfl) (by kernel_rfl) (by kernel_rfl) (fun _ _ _ h=>h) (Or.inl ⟨by rfl,?_⟩) hHeld ?_
  ·intro w' hSw;have s0:=(HLn.out w' hSw).b1.cell (i:=0) rfl;clear hSw;go_simp
  simp only [Act.put,List.setIfInBounds_toArray,List.set_cons_zero,List.set_cons_succ]
  refine wpH_takes (i:=5) (v:=.pointer (some ⟨br,k,none⟩)) (some 18) rfl rfl (by kernel_rfl) (by kernel_rfl) (by kernel_rfl) (fun _ _ _ h=>h) (Or.inl ⟨by rfl,?_⟩) hHeld ?_
  ·intro w' hSw;have s0:=HKK.out.2.1;have s1:=HKK.out.2.2;clear hSw;go_simp
  simp only [Act.put,List.setIfInBounds_toArray,List.set_cons_zero,List.set_cons_succ]
  refine wpH_takes (i:=6) (v:=.pointer (some ⟨r k,0,none⟩)) (some 19) rfl rfl (by kernel_rfl) (by kernel_rfl) (by kernel_rfl) (fun _ _ _ h=>h) (Or.inl ⟨by rfl,?_⟩) hHeld ?_
  ·intro w' hSw;have s0:=(HLn.out w' hSw).pa.r k HKK.out.1;clear hSw;go_simp
  simp only [Act.put,List.setIfInBounds_toArray,List.set_cons_zero,List.set_cons_succ]
  refine wpH_fork17 (i:=7) (j:=8) (by kernel_rfl) rfl rfl rfl rfl (fun K hK=>?_) (fun K hK=>?_)
  ·go_simp
   refine (HRCl.out _ ((Kp.refl W1 Nul).drew)).mono ?_
   rintro e wa ⟨rn,vn,rfl,hrn,hdn,ka⟩
   have KA:Hid (Kp W1 wa Nul):=((Kp.refl W1 Nul).drew).trans ka
   have HD0:Hid (DG wa 0 rn vn zs∧W1.heap.size≤rn):=⟨hdn,hrn⟩
   refine hK.out _ _ KA.out (fun hHeld=>?_)
   clear hK K ka hrn hdn
   (try simp only [Act.put,List.setIfInBounds_toArray,List.set_cons_zero,List.set_cons_succ])
   refine wpH_step (i:=8) (by kernel_rfl) rfl rfl (fun KK hKK=>?_)
   go_simp
   have HN:Hid (Blk (wa.alloc (.cells #[.pointer none] 28)) wa.heap.size [.pointer none] 28):=Blk.new wa [.pointer none] 28
   have HKx:Hid (Kp W1 (wa.alloc (.cells #[.pointer none] 28)) Nul):=KA.out.alloc _
   have HD:Hid (DG (wa.alloc (.cells #[.pointer none] 28)) 0 rn vn zs∧W1.heap.size≤rn):=⟨HD0.out.1.kp ((Kp.refl wa Nul).alloc _),HD0.out.2⟩
   have HBb:Hid (W1.heap.size≤wa.heap.size):=KA.out.size
   refine hKK.out _ _ HKx.out (fun hHeld=>?_)
   clear hKK KK
   (try simp only [Act.put,List.setIfInBounds_toArray,List.set_cons_zero,List.set_cons_succ])
   refine wpH_step (i:=9) (by kernel_rfl) rfl rfl (fun KK hKK=>?_)
   obtain ⟨wy,hwy⟩:∃ wy,wa.alloc (.cells #[.pointer (some ⟨rn,0,none⟩)] 28)=wy:=⟨_,rfl⟩
   have HWy:Hid (wa.alloc (.cells #[.pointer (some ⟨rn,0,none⟩)] 28)=wy):=hwy
   have ky:Kp wa wy Nul:=by rw [← hwy];exact (Kp.refl wa Nul).alloc _
   have HBy:Hid (Blk wy wa.heap.size [.pointer (some ⟨rn,0,none⟩)] 28):=by show Blk _ _ _ _;rw [← hwy];exact Blk.new wa _ _
   have HKy:Hid (Kp W1 wy Nul):=KA.out.trans ky
   have HDy:Hid (DG wy 0 rn vn zs∧W1.heap.size≤rn):=⟨HD0.out.1.kp ky,HD0.out.2⟩
   have HBb2:Hid (W1.heap.size≤wa.heap.size):=HBb.out
   clear hwy ky HN HKx HD HBb
   go_simp
   rw [HWy.out]
   refine hKK.out _ _ HKy.out (fun hHeld=>?_)
   clear hKK KK
   refine wpAnyH_done (by kernel_rfl) ?_ _
   refine NoPanic.normal ?_
   clear hHeld
   go_wp2_with fail
   go_meet
   case rel=>exact ⟨_,rn,vn,rfl,HBy.out,HDy.out.1,HDy.out.2,HBb2.out,HKy.out⟩
  ·go_simp
   have J1:Hid (Kp W1 (W1.drew.alloc (.cells #[.pointer none] 28)) Nul):=((Kp.refl W1 Nul).drew).alloc _
   have N1:Hid (∀ wq,Kp (W1.drew.alloc (.cells #[.pointer none] 28)) wq Nul→Blk wq W1.heap.size [.pointer none] 28):=fun wq q=>(Blk.new W1.drew [.pointer none] 28).kp q (fun x=>x)
   refine hK.out _ _ J1.out (fun hHeld=>?_)
   clear hK K
   (try simp only [Act.put,List.setIfInBounds_toArray,List.set_cons_zero,List.set_cons_succ])
   refine wpH_step (i:=7) (by kernel_rfl) rfl rfl (fun KK hKK=>?_)
   go_simp
   refine (HRCl.out _ J1.out).mono ?_
   rintro e wa ⟨rn,vn,rfl,hrn,hdn,ka⟩
   have HN:Hid (Blk wa W1.heap.size [.pointer none] 28):=N1.out wa ka
   have HKx:Hid (Kp W1 wa Nul):=J1.out.trans ka
   have HD:Hid (DG wa 0 rn vn zs∧W1.heap.size≤rn):=⟨hdn,hrn⟩
   have HBb:Hid (W1.heap.size≤W1.heap.size):=Nat.le_refl _
   refine hKK.out _ _ HKx.out (fun hHeld=>?_)
   clear hKK KK ka hrn hdn N1 J1
   (try simp only [Act.put,List.setIfInBounds_toArray,List.set_cons_zero,List.set_cons_succ])
   refine wpH_step (i:=9) (by kernel_rfl) rfl rfl (fun KK hKK=>?_)
   have c0:wa.cell? ⟨W1.heap.size,0,none⟩=some (.pointer none):=HN.out.cell rfl
   have f0:wa.frozen? ⟨W1.heap.size,0,none⟩=false:=HN.out.froz 0
   obtain ⟨wy,hwy⟩:∃ wy,wa.setCell ⟨W1.heap.size,0,none⟩ (.pointer (some ⟨rn,0,none⟩))=wy:=⟨_,rfl⟩
   have HWy:Hid (wa.setCell ⟨W1.heap.size,0,none⟩ (.pointer (some ⟨rn,0,none⟩))=wy):=hwy
   have ky:Kp wa wy (fun i=>i=W1.heap.size):=by rw [← hwy];exact (Kp.refl wa (fun i=>i=W1.heap.size)).setCell _ _ (.inr rfl)
   have HBy:Hid (Blk wy W1.heap.size [.pointer (some ⟨rn,0,none⟩)] 28):=by show Blk _ _ _ _;rw [← hwy];exact HN.out.set 0 _
   have HKy:Hid (Kp W1 wy Nul):=HKx.out.trans' ky (fun i hi e=>by have e':i=W1.heap.size:=e;have:=HBb.out;omega)
   have HDy:Hid (DG wy 0 rn vn zs∧W1.heap.size≤rn):=⟨HD.out.1.off ky HN.out plain_ptr1 (by decide) (Blk.ne HD.out.1.box HN.out (by decide)),HD.out.2⟩
   have HBb2:Hid (W1.heap.size≤W1.heap.size):=HBb.out
   clear hwy ky HN HKx HD HBb
   go_simp
   rw [HWy.out]
   refine hKK.out _ _ HKy.out (fun hHeld=>?_)
   clear hKK KK c0 f0
   refine wpAnyH_done (by kernel_rfl) ?_ _
   refine NoPanic.normal ?_
   clear hHeld
   go_wp2_with fail
   go_meet
   case rel=>exact ⟨_,rn,vn,rfl,HBy.out,HDy.out.1,HDy.out.2,HBb2.out,HKy.out⟩
 case rest=>
  obtain ⟨b7,rn,vn,hs,hb7,hdn,hrn,hb7l,hkX⟩:=hcut
  subst hs
  obtain ⟨pn,cn,hvn,hrow⟩:=hdn.pts.slice
  obtain ⟨n,hn⟩:∃ n,zs.length=n:=⟨_,rfl⟩
  rw [hn] at hvn
  subst hvn
  rename World=>X
  have KX:Hid (Kp W1 X Nul):=hkX
  have HB7:Hid (Blk X b7 [.pointer (some ⟨rn,0,none⟩)] 28∧DG X 0 rn (.slice pn n cn) zs∧W1.heap.size≤rn∧W1.heap.size≤b7):=⟨hb7,hdn,hrn,hb7l⟩
  clear hb7 hdn hrn hb7l hkX hrow HRCl HL1
  go_upto_region 2 with fail
  refine wp_region_noPanic ?_
  refine wp_region_hel (fun w':World=>Kp X w' Nul) (by kernel_rfl) ((Kp.refl _ _).drew) (fun hHeld=>?_)
  refine wpH_takes (i:=0) (v:=.pointer (some ⟨xw,0,none⟩)) (some 21) rfl rfl (by kernel_rfl) (by kernel_rfl) (by kernel_rfl) (fun _ _ _ h=>h) (Or.inl ⟨by rfl,?_⟩) hHeld ?_
  ·intro w' hSw;have s0:=(HLn.out w' (KX.out.trans hSw)).b0.cell (i:=0) rfl;clear hSw;go_simp
  simp only [Act.put,List.setIfInBounds_toArray,List.set_cons_zero,List.set_cons_succ]
  refine wpH_takes (i:=1) (v:=.pointer (some ⟨xw,0,none⟩)) (some 22) rfl rfl (by kernel_rfl) (by kernel_rfl) (by kernel_rfl) (fun _ _ _ h=>h) (Or.inl ⟨by rfl,?_⟩) hHeld ?_
  ·intro w' hSw;clear hSw;go_simp
  simp only [Act.put,List.setIfInBounds_toArray,List.set_cons_zero,List.set_cons_succ]
  refine wpH_takes (i:=2) (v:=.pointer (some ⟨xw,0,none⟩)) (some 23) rfl rfl (by kernel_rfl) (by kernel_rfl) (by kernel_rfl) (fun _ _ _ h=>h) (Or.inl ⟨by rfl,?_⟩) hHeld ?_
  ·intro w' hSw;clear hSw;go_simp
  simp only [Act.put,List.setIfInBounds_toArray,List.set_cons_zero,List.set_cons_succ]
  refine wpH_takes (i:=3) (v:=.slice (some ⟨bg,0,none⟩) 2 2) (some 24) rfl rfl (by kernel_rfl) (by kernel_rfl) (by kernel_rfl) (fun _ _ _ h=>h) (Or.inl ⟨by rfl,?_⟩) hHeld ?_
  ·intro w' hSw;have s0:=(HLn.out w' (KX.out.trans hSw)).pa.x0;clear hSw;go_simp
  simp only [Act.put,List.setIfInBounds_toArray,List.set_cons_zero,List.set_cons_succ]
  refine wpH_takes (i:=4) (v:=.int .i64 (k:Nat)) (some 25) rfl rfl (by kernel_rfl) (by kernel_rfl) (by kernel_rfl) (fun _ _ _ h=>h) (Or.inl ⟨by rfl,?_⟩) hHeld ?_
  ·intro w' hSw;have s0:=(HLn.out w' (KX.out.trans hSw)).b1.cell (i:=0) rfl;clear hSw;go_simp
  simp only [Act.put,List.setIfInBounds_toArray,List.set_cons_zero,List.set_cons_succ]
  refine wpH_takes (i:=5) (v:=.pointer (some ⟨bg,k,none⟩)) (some 26) rfl rfl (by kernel_rfl) (by kernel_rfl) (by kernel_rfl) (fun _ _ _ h=>h) (Or.inl ⟨by rfl,?_⟩) hHeld ?_
  ·intro w' hSw;have s0:=HKK.out.2.1;have s1:=HKK.out.2.2;clear hSw;go_simp
  simp only [Act.put,List.setIfInBounds_toArray,List.set_cons_zero,List.set_cons_succ]
  refine wpH_takes (i:=6) (v:=.pointer (some ⟨g k,0,none⟩)) (some 27) rfl rfl (by kernel_rfl) (by kernel_rfl) (by kernel_rfl) (fun _ _ _ h=>h) (Or.inl ⟨by rfl,?_⟩) hHeld ?_
  ·intro w' hSw;have s0:=(HLn.out w' (KX.out.trans hSw)).pa.g k HKK.out.1;clear hSw;go_simp
  simp only [Act.put,List.setIfInBounds_toArray,List.set_cons_zero,List.set_cons_succ]
  refine wpH_step (i:=7) (by kernel_rfl) rfl rfl (fun KK hKK=>?_)
  go_simp
  refine (HAll.out _).mono ?_
  rintro e w5 ⟨x0,x1,rfl,hb0,hb1,k5⟩
  have K5:Hid (Kp X w5 Nul):=((Kp.refl X Nul).drew).trans k5
  have HX01:Hid (Blk w5 x0 [.pointer (some ⟨g k,0,none⟩)] 25∧Blk w5 x1 [.int .i64 1,.int .i64 1,.int .i64 256,.int .i64 4096] 48):=⟨hb0,hb1⟩
  refine hKK.out _ _ K5.out (fun hHeld=>?_)
  clear hKK KK k5 hb0 hb1
  (try simp only [Act.put,List.setIfInBounds_toArray,List.set_cons_zero,List.set_cons_succ])
  refine wpH_takes (i:=8) (v:=.func (.func 47) #[] #[.pointer (some ⟨x0,0,none⟩),.pointer (some ⟨x1,0,none⟩)]) (some 8) rfl rfl (by kernel_rfl) (by kernel_rfl) (by kernel_rfl) (fun _ _ _ h=>h) (Or.inl ⟨by rfl,?_⟩) hHeld ?_
  ·intro w' hSw;clear hSw;go_simp
  simp only [Act.put,List.setIfInBounds_toArray,List.set_cons_zero,List.set_cons_succ]
  refine wpAnyH_done (by kernel_rfl) ?_ _
  refine NoPanic.normal ?_
  clear hHeld
  have hnf:=fun wq=>eq_nil2 47 #[.pointer (some ⟨x0,0,none⟩),.pointer (some ⟨x1,0,none⟩)] wq
  obtain ⟨w6,hw6⟩:∃ w6,w5.alloc (.cells #[.int .i64 0] 3)=w6:=⟨_,rfl⟩
  have HW6:Hid (w5.alloc (.cells #[.int .i64 0] 3)=w6):=hw6
  obtain ⟨bn,hbn⟩:∃ bn,w5.heap.size=bn:=⟨_,rfl⟩
  have k56:Kp w5 w6 Nul:=by rw [← hw6];exact (Kp.refl w5 Nul).alloc _
  have hs6:w6.heap.size=bn+1:=by rw [← hw6,World.size_alloc,hbn]
  have hb6:Blk w6 bn [.int .i64 ((0:Nat):Int)] 3:=by rw [← hw6,← hbn];exact Blk.new w5 _ _
  have k16:Kp W1 w6 Nul:=(KX.out.trans K5.out).trans k56
  have HK16:Hid (Kp W1 w6 Nul):=k16
  have HS6:Hid (w6.heap.size=bn+1∧a+4≤bn):=⟨hs6,by have h1:=HS1.out;have h2:=(KX.out.trans K5.out).size;omega⟩
  have hl6:=HLn.out w6 k16
  have HW0:WhS w0 B xw bg br g r k a b7 bn rn (.slice pn n cn) zs on nn c s ct sl m1 m2 m3 m4 0 w6:=⟨⟨_,_,_,_,HP.out.nul k16⟩,HB7.out.2.1.kp (K5.out.trans k56),hl6.b0,hl6.b1,hl6.b2,HB3.out.kp k16 (fun x=>x),HB7.out.1.kp (K5.out.trans k56) (fun x=>x),hb6,HK.out.trans k16⟩
  have HRn:Hid (W1.heap.size≤rn∧r k < W1.heap.size∧g k < W1.heap.size):=⟨HB7.out.2.2.1,(HP.out.dd.dg k hk).box.lt,HP.out.gg.lt hk⟩
  obtain ⟨mv6,hg6⟩:=(HP.out.gg.nul k16).g0 hk |>.blk'
  have HM6:Hid (Blk w6 (g k) [.map mv6] 68∧∀ m,mv6=some m→m < w6.heap.size):=hg6
  have hmap:∀ m,w6.heap[g k]? = some (.cells #[.map (some m)] 68 (0,0))→m < w6.heap.size:=fun m hm=>HM6.out.2 m (by have h:=HM6.out.1.symm.trans hm;simpa using h)
  have HMp:Hid (∀ m,w6.heap[g k]? = some (.cells #[.map (some m)] 68 (0,0))→m < w6.heap.size):=hmap
  clear hw6 hb6 hl6 hg6 hmap
  go_wp2_with fail
  rw [HW6.out]
  clear HW6 hnf
  generalize hact:Act.mk _ _=a0
  refine wp_range_ow4 (α:=(Cc×Value)×List Nat) (N:=(K k).length) (gf:=47) (lb:=#[.pointer (some ⟨x0,0,none⟩),.pointer (some ⟨x1,0,none⟩)]) (by rw [← hact];rfl) (enters_of Tryz.func47 (by kernel_rfl) rfl) (encs:=encQ) wtQ (fun _=>rfl) (TellQ w6 (K k)) ?hT (fun i=>i=bn∨i=r k∨i=g k∨w6.heap[g k]? = some (.cells #[.map (some i)] 68 (0,0))) ?hseq (fun j Z W=>WhI w0 B xw bg br g r k a b7 bn rn (.slice pn n cn) zs on nn c s ct sl m1 m2 m3 m4 w6 j Z W) ?hZ ?hZl ?hI (fun _=>False) ?hIx (fun i=>i=bn∨i=r k∨i=g k∨w6.heap[g k]? = some (.cells #[.map (some i)] 68 (0,0))) ?h0 ?hround ?hdone ?hstop
  case hT=>rintro q x Z W ⟨_,_,_,h⟩;exact ⟨fun e=>by have:=(h _ e).1;omega,fun e=>by have:=(h _ e).1;omega⟩
  case hseq=>
   refine in1_put (g k) x0 x1 (fun i=>i < bn) 1 1 256 4096 (L k) _ (K k) rfl w6 _ ((HP.out.gg.nul k16).g0 hk) ?_ (HP.out.gg.ok k hk).gd (HP.out.gg.ok k hk).at' (HP.out.gg.ok k hk).len (HP.out.kk.al k hk).st (fun x=>((HP.out.kk.al k hk).mem x).trans (inL_all (HP.out.gg.ok k hk) x).symm) (fun i e=>by have e':i < bn:=e;omega) ?_ (HX01.out.1.kp k56 (fun x=>x)) (HX01.out.2.kp k56 (fun x=>x))
   ·have h:=((HP.out.gg.nul (KX.out.trans K5.out)).low.gi k hk).kp k56
    rw [hbn] at h
    exact h
   ·intro i hs hF o q x hc
    have hF':i < bn:=hF
    rcases hs with e|e|e|e
    ·omega
    ·subst e
     have hb:=((HP.out.dd.nul k16).dg k hk).box
     have hp:=((HP.out.dd.nul k16).dg k hk).plain
     simp only [World.cell?] at hc
     rw [show w6.heap[r k]? = some (.cells #[v k] 31 (0,0)) from hb] at hc
     exact (hp o _ hc).1 q x rfl
    ·subst e
     exact no_int_map HM6.out.1 hc
    ·obtain ⟨cs,ty,f,e1,_⟩:=cells_of_int hc
     obtain ⟨_,⟨hb,_⟩|⟨m,D,hb,_,_,hown,_⟩⟩:=(HP.out.gg.nul k16).g0 hk
     ·rw [hb] at e;simp at e
     ·rw [hb] at e
      have e2:m=i:=by simpa using e
      subst e2
      exact map_no_cells hown _ _ _ e1
  case hZ=>
   rintro q Z W ⟨h1,h2,h3⟩
   have hr:=HRn.out
   have hs:=HK16.out.size
   refine ⟨fun e=>?_,fun e=>?_⟩
   ·rcases (h2 _).1 e with e|e|e|e
    ·omega
    ·omega
    ·omega
    ·rcases h3 _ e with e|e
     ·have:=HMp.out _ e;omega
     ·omega
   ·rcases (h2 _).1 e with e|e|e|e
    ·omega
    ·omega
    ·omega
    ·rcases h3 _ e with e|e
     ·have:=HMp.out _ e;omega
     ·omega
  case hZl=>
   rintro q Z W ⟨h1,h2,h3⟩
   have hW:=h1 W (Kp.refl _ _)
   obtain ⟨L2,K2,y2,z2,hp⟩:=hW.pl
   refine ⟨fun i e=>?_,fun i hi e=>?_⟩
   ·rcases (h2 _).1 e with e|e|e|e
    ·rw [e];exact hW.bn.lt
    ·rw [e];exact (hp.dd.dg k hk).box.lt
    ·rw [e];exact hp.gg.lt hk
    ·obtain ⟨mv',hb',hl'⟩:=(hp.gg.g0 hk).blk'
     exact hl' i (by have h:=hb'.symm.trans e;simpa using h)
   ·rcases (h2 _).1 e with e|e|e|e
    ·exact .inl e
    ·exact .inr (.inl e)
    ·exact .inr (.inr (.inl e))
    ·rcases h3 _ e with e|e
     ·exact .inr (.inr (.inr e))
     ·omega
  case hI=>
   rintro q Z W W' ⟨h1,h2,h3⟩ hq
   have hgk:W'.heap[g k]? = W.heap[g k]?:=by
    have hW:=h1 W (Kp.refl _ _)
    obtain ⟨L2,K2,y2,z2,hp⟩:=hW.pl
    have hr:=HRn.out
    have hs:=HK16.out.size
    exact hq.block _ (hp.gg.lt hk) (fun e=>by rcases e with e|e <;> omega)
   exact ⟨fun W2 h=>h1 W2 (hq.trans h),fun i=>by rw [hgk];exact h2 i,fun m hm=>h3 m (by rw [← hgk];exact hm)⟩
  case hIx=>exact fun W W' h _=>h.elim
  case h0=>
   refine ⟨fun W' q=>?_,fun i=>Iff.rfl,fun m hm=>.inl hm⟩
   have hr:∀ i,i=w6.heap.size∨i=w6.heap.size+1→w6.heap.size≤i:=fun i e=>by rcases e with e|e <;> omega
   exact HW0.nul ⟨q.os,q.tape,q.output,q.size,fun i hi _=>q.block i hi (fun e=>by have:=hr i e;omega)⟩
  case hround=>
   subst hact
   rintro j ⟨⟨⟨⟨c2,s2⟩,x⟩,sx⟩,fp⟩ Z W KK hkN hsW ⟨hI1,hI2,hI3⟩ ⟨hKk,hown,hnd,hfz⟩ hcont
   have O1:Hid (sx.oneCell'=true):=hown.one
   have HZ:Hid (∀ i,Z i ↔ i=bn∨i=r k∨i=g k∨W.heap[g k]? = some (.cells #[.map (some i)] 68 (0,0))):=hI2
   have HI1:Hid (∀ W',Kp W W' (fun i=>i=w6.heap.size∨i=w6.heap.size+1)→WhS w0 B xw bg br g r k a b7 bn rn (.slice pn n cn) zs on nn c s ct sl m1 m2 m3 m4 j W'):=hI1
   have HI3:Hid (∀ m,W.heap[g k]? = some (.cells #[.map (some m)] 68 (0,0))→w6.heap[g k]? = some (.cells #[.map (some m)] 68 (0,0))∨w6.heap.size+2≤m):=hI3
   have HOwn0:Hid (NdOwn W sx x.t fp):=hown
   have HFz:Hid (∀ i∈fp,w6.heap.size+2≤i ∧ ¬ Z i):=hfz
   have HSW:Hid (w6.heap.size+2≤W.heap.size):=hsW
   have hKn:(K k).length=n:=by rw [← HZs.out.1,List.length_map,hn]
   have hjn:j < n:=by rw [← hKn];exact hkN
   obtain ⟨⟨y1,sr⟩,hys⟩:∃ y,zs[j]? = some y:=⟨_,List.getElem?_eq_getElem (by rw [hn];exact hjn)⟩
   have hy1:y1=((c2,s2),x):=by
    have:(K k)[j]? = some y1:=by rw [← HZs.out.1,List.getElem?_map,hys];rfl
    rw [hKk] at this
    injection this with this
    exact this.symm
   subst hy1
   have HYs:Hid (zs[j]? = some (((c2,s2),x),sr)):=hys
   have HJn:Hid (j < n):=hjn
   have HJ2:Hid ((0:Int)≤(j:Int)∧(j:Int) < (n:Int)):=⟨by omega,by omega⟩
   have hjb:(j:Int)+1≤9223372036854775807:=by have:=HZs.out.2;omega
   obtain ⟨b,hb⟩:∃ b,pn=some ⟨b,0,none⟩:=by
    obtain ⟨p',c',e1,hp'⟩:=HB7.out.2.1.pts.slice
    injection e1 with e1 e2 e3
    obtain ⟨b,e5,_,_⟩:=hp' (by omega)
    exact ⟨b,e1.trans e5⟩
   have HPb:Hid (pn=some ⟨b,0,none⟩):=hb
   have hgk6:g k≠bn∧g k < w6.heap.size:=⟨by have h1:=HRn.out;have h2:=HS1.out;have h3:=HS6.out;omega,by have h1:=HRn.out;have h2:=HK16.out.size;omega⟩
   have HGbn:Hid (¬ g k=bn):=hgk6.1
   have HGk6:Hid (g k < w6.heap.size):=hgk6.2
   clear hI1 hI2 hI3 hKk hown hnd hfz hsW hys hjn hkN hKn hb hgk6 HW0 k16 k56 hs6
   simp only [List.zip_toArray,List.zip_cons_cons,List.zip_nil_right,List.foldl_toArray',List.foldl_cons,List.foldl_nil]
   gi_wp2_with (first
    | (refine storeIn_new' rfl 46 (.tmp 11) (.tmp 33) rfl _ _ _ _ (by first|rfl|simp) rfl rfl rfl infoContent (x.one O1.out) ?_)
    | fail)
   refine hcont _ _ (((Kp.refl W Nul).alloc _).alloc _) (fun V hV hloop hdef=>?_)
   have hW2:Kp W ((W.alloc (.cells #[.int .i64 c2,.int .i64 s2] 36)).alloc (.cells (x.cells sx).toArray 46)) Nul:=((Kp.refl W Nul).alloc _).alloc _
   have hWV:Kp W V (fun i=>i=w6.heap.size+1):=(hW2.mono (fun _ _ q=>q.elim)).trans hV
   have HWV:Hid (WhS w0 B xw bg br g r k a b7 bn rn (.slice pn n cn) zs on nn c s ct sl m1 m2 m3 m4 j V):=HI1.out V (hWV.mono (fun _ _ e=>.inr e))
   obtain ⟨L2,K2,y2,z2,hPV⟩:=HWV.out.pl
   have HPV:Hid (PlayS V B xw bg br g r L2 K2 y2 z2):=hPV
   obtain ⟨mv,hbgV⟩:=(hPV.gg.g0 hk).blk
   have HBgV:Hid (Blk V (g k) [.map mv] 68):=hbgV
   have HGV:Hid (V.heap[g k]? = W.heap[g k]?):=hWV.block _ (by have:=HGk6.out;have:=HSW.out;omega) (fun e=>by have e':g k=w6.heap.size+1:=e;have:=HGk6.out;omega)
   have HSzV:Hid (W1.heap.size≤V.heap.size∧W.heap.size≤V.heap.size):=⟨by have h1:=HK16.out.size;have h2:=HSW.out;have h3:=hWV.size;omega,hWV.size⟩
   have HOffs:Hid (∀ Y,Kp V Y (fun i=>(Z i∨wtQ ((((c2,s2),x),sx),fp) i)∨W.heap.size≤i)→Off Y (fun i=>i=w6.heap.size∨i=w6.heap.size+1)):=fun Y q i e=>by
    have hno:∀ i,(i=w6.heap.size∨i=w6.heap.size+1) → ¬ ((Z i∨wtQ ((((c2,s2),x),sx),fp) i)∨W.heap.size≤i):=fun i e q=>by
     have hsw:=HSW.out
     rcases q with (q|q)|q
     ·rcases (HZ.out i).1 q with q|q|q|q
      ·have:=HS6.out;rcases e with e|e <;> omega
      ·have h1:=HRn.out;have h2:=HK16.out.size;rcases e with e|e <;> omega
      ·have h1:=HGk6.out;rcases e with e|e <;> omega
      ·rcases HI3.out i q with q|q
       ·have:=HMp.out i q;rcases e with e|e <;> omega
       ·rcases e with e|e <;> omega
     ·have:=(HFz.out i q).1;rcases e with e|e <;> omega
     ·rcases e with e|e <;> omega
    have hblk:=q.block i (by have h1:=HSW.out;have h2:=HSzV.out.2;rcases e with e|e <;> omega) (hno i e)
    rw [hblk]
    rcases e with e|e
    ·subst e;exact .inl ⟨_,hdef⟩
    ·subst e;exact .inr hloop
   have HbA:Hid (∀ wq,Kp V wq Nul→Blk wq W.heap.size [.int .i64 c2,.int .i64 s2] 36):=fun wq q=>(((Blk.new W [.int .i64 c2,.int .i64 s2] 36).alloc _).kp hV (fun e=>by have e':W.heap.size=w6.heap.size+1:=e;have:=HSW.out;omega)).kp q (fun x=>x)
   have HbC:Hid (∀ wq,Kp V wq Nul→Blk wq (W.heap.size+1) (x.cells sx) 46):=fun wq q=>by
    have h1:=Blk.new (W.alloc (.cells #[.int .i64 c2,.int .i64 s2] 36)) (x.cells sx) 46
    rw [World.size_alloc] at h1
    exact (h1.kp hV (fun e=>by have e':W.heap.size+1=w6.heap.size+1:=e;have:=HSW.out;omega)).kp q (fun x=>x)
   have HOwnV:Hid (NdIn V (fun _=>True) sx x.t):=(HOwn0.out.mono (fun i hi=>hWV.block i (node_lt (HOwn0.out.node i hi)) (fun e=>by have e':i=w6.heap.size+1:=e;have:=(HFz.out i hi).1;omega))).isIn (fun _ _=>trivial)
   have HRw:Hid (∀ wq,Kp V wq Nul→wq.rangeAt b (j * 23) [.int .i64 c2,.int .i64 s2]∧wq.rangeAt b (j * 23+2) (x.cells sr)):=fun wq q=>by
    obtain ⟨p',c',e1,hp'⟩:=(HWV.out.dn.kp q).pts.slice
    injection e1 with e1 e2 e3
    obtain ⟨b',e5,_,hr⟩:=hp' (by have:=(List.getElem?_eq_some_iff.1 HYs.out).1;omega)
    rw [e5,HPb.out] at e1
    injection e1 with e1
    injection e1 with e1 _ _
    subst e1
    exact pt_parts (hr j _ HYs.out)
   have HV:Hid (∀ wq,Kp V wq Nul→wq.cell? ⟨bn,0,none⟩=some (.int .i64 (j:Nat))∧wq.cell? ⟨b7,0,none⟩=some (.pointer (some ⟨rn,0,none⟩))∧wq.cell? ⟨rn,0,none⟩=some (.slice pn n cn)):=fun wq q=>⟨(HWV.out.bn.kp q (fun x=>x)).cell rfl,(HWV.out.b7.kp q (fun x=>x)).cell rfl,(HWV.out.dn.kp q).box.cell rfl⟩
   have HOa:Hid (∀ wq,Kp V wq Nul→OpA wq (a+1+1) on 8 nn c s ct sl m1 m2 m3 m4):=fun wq q=>opC_at (HWV.out.b2.kp q (fun x=>x))
   have HJust:Hid (∀ wq,Kp V wq Nul→Calls Tryz.prog 19 #[.agg (x.cells sx).toArray,.agg (x.cells sr).toArray] wq fun e w'=>e=.returned (.bool true)∧Kp wq w' Nul):=fun wq q=>
    just_at x sx sr (fun _=>True) (fun _=>True) wq (HOwnV.out.kp q (fun _ _ x=>x)) ((HWV.out.dn.kp q).pts.tree _ (List.mem_of_getElem? HYs.out))
   obtain ⟨lo,hlo⟩:=place_ex (c,s) (hPV.kk.al k hk).st
   have HLo:Hid (Place (K2 k) (c,s) lo):=hlo
   have HIn:Hid (∀ wq,Kp w0 wq Nul→NdIn wq (fun _=>True) sl ct.t):=fun wq q=>HO.out.inn.kp q (fun _ _ x=>x)
   have HOwn:Hid (∀ wq,Kp V wq Nul→Calls Tryz.prog 18 #[.agg (ct.cells sl).toArray] wq fun e w'=>∃ sl' fp,e=.returned (.agg (ct.cells sl').toArray)∧Own w' wq.heap.size sl' ct.t fp∧Kp wq w' Nul):=fun wq q=>(rOwn_at ct sl (fun _=>True) wq HO.out.sz (HIn.out wq (HWV.out.kp.trans q))).mono (by
    rintro e w' ⟨sl',fp,h1,h2,h3⟩
    exact ⟨sl',fp,h1,h2,Kp.of_below h3⟩)
   have HPut:Hid (∀ wq so,Kp V wq Nul→NdIn wq (fun _=>True) so ct.t→Calls Tryz.prog 10 #[.pointer (some ⟨g k,0,none⟩),.agg ([.int .i64 c,.int .i64 s]).toArray,.agg (ct.cells so).toArray] wq fun e w'=>∃ L',e=.returned (.int .i64 (rpE (gv ct) (K2 k) lo c s ct:Nat))∧GridIn w' FA (g k) L'∧Ok17 L'∧Al L' (rpK (gv ct) (K2 k) lo c s ct)∧Km (g k) wq w'):=fun wq so q hin=>
    put_err FA (g k) c s ct so (fun _=>True) (L2 k) (K2 k) lo wq ((HPV.out.gg.nul q).gi k hk) (fun i _=>Nat.zero_le i) (HPV.out.gg.ok k hk) (HPV.out.kk.al k hk) HLo.out HO.out.ok HO.out.vx hin (HO.out.vs.kp (HWV.out.kp.trans q))
   have HRPut:Hid (∀ wq,Kp w0 wq Nul→B≤wq.heap.size→DG wq B (r k) (y2 k) (z2 k)→Calls Tryz.prog 21 #[.pointer (some ⟨r k,0,none⟩),.agg ([.int .i64 c,.int .i64 s]).toArray,.agg (ct.cells sl).toArray] wq fun e w'=>∃ v' ys',e=.returned (.int .i64 (rpE (gv ct) (K2 k) lo c s ct:Nat))∧DG w' B (r k) v' ys'∧ys'.map (·.1)=rpK (gv ct) (K2 k) lo c s ct∧Kp wq w' (fun i=>i=r k)):=fun wq q hb hd=>by
    refine (rput_at B (r k) (y2 k) (z2 k) (K2 k) c s ct sl (gv ct) wq hd (HPV.out.kk.ks k hk) hb (by have h1:=(HPV.out.kk.al k hk).len;have h2:=(HPV.out.gg.ok k hk).len;omega) (HPV.out.kk.al k hk).st (fun wz kz=>rgv_at ct sl (fun _=>True) wz HO.out.sz HO.out.ok HO.out.tx.1 HO.out.tx.2 (HIn.out wz (q.trans kz))) (fun _ wz kz=>(rcCopy_at ct sl (fun _=>True) wz HO.out.vx HO.out.sz HO.out.ok (HIn.out wz (q.trans kz))).mono (by
     rintro e w' ⟨sl',fp,h1,h2,h3⟩
     exact ⟨sl',fp,h1,h2,Kp.of_below h3⟩)) HO.out.inn.one).mono ?_
    rintro e w' ⟨lo',v',ys',h1,h2,h3,h4,h5⟩
    have e1:=Place.uniq h1 HLo.out
    subst e1
    exact ⟨v',ys',h2,h3,h4,h5⟩
   generalize hRE:rpE (gv ct) (K2 k) lo c s ct=re at *
   clear hRE hlo hcont hV hW2 hWV hloop hdef hPV hbgV HP HLn
   gi_wp2_with (fail)
   refine regIn_noPanic ?_
   refine regIn_held (fun w':World=>Kp V w' Nul) (by kernel_rfl) (by kernel_rfl) (noPanic_lets (fun a w h=>Or.elim h (fun q=>Exit.noConfusion (And.left q)) (fun q=>Exit.noConfusion (And.left q)))) ((Kp.refl V Nul).drew) (fun hHeld=>?_)
   refine wpH_takes (i:=0) (v:=.int .i64 (j:Nat)) (some 34) rfl rfl (by kernel_rfl) (by kernel_rfl) (by kernel_rfl) (fun _ _ _ h=>h) (Or.inl ⟨by rfl,?_⟩) hHeld ?_
   ·intro w' hSw;have s0:=(HV.out w' hSw).1;clear hSw;go_simp
   simp only [Act.put,List.setIfInBounds_toArray,List.set_cons_zero,List.set_cons_succ]
   refine wpH_takes (i:=1) (v:=.pointer (some ⟨rn,0,none⟩)) (some 35) rfl rfl (by kernel_rfl) (by kernel_rfl) (by kernel_rfl) (fun _ _ _ h=>h) (Or.inl ⟨by rfl,?_⟩) hHeld ?_
   ·intro w' hSw;have s0:=(HV.out w' hSw).2.1;clear hSw;go_simp
   simp only [Act.put,List.setIfInBounds_toArray,List.set_cons_zero,List.set_cons_succ]
   refine wpH_takes (i:=2) (v:=.pointer (some ⟨rn,0,none⟩)) (some 36) rfl rfl (by kernel_rfl) (by kernel_rfl) (by kernel_rfl) (fun _ _ _ h=>h) (Or.inl ⟨by rfl,?_⟩) hHeld ?_
   ·intro w' hSw;clear hSw;go_simp
   simp only [Act.put,List.setIfInBounds_toArray,List.set_cons_zero,List.set_cons_succ]
   refine wpH_takes (i:=3) (v:=.pointer (some ⟨rn,0,none⟩)) (some 37) rfl rfl (by kernel_rfl) (by kernel_rfl) (by kernel_rfl) (fun _ _ _ h=>h) (Or.inl ⟨by rfl,?_⟩) hHeld ?_
   ·intro w' hSw;clear hSw;go_simp
   simp only [Act.put,List.setIfInBounds_toArray,List.set_cons_zero,List.set_cons_succ]
   refine wpH_takes (i:=4) (v:=.slice pn n cn) (some 38) rfl rfl (by kernel_rfl) (by kernel_rfl) (by kernel_rfl) (fun _ _ _ h=>h) (Or.inl ⟨by rfl,?_⟩) hHeld ?_
   ·intro w' hSw;have s0:=(HV.out w' hSw).2.2;clear hSw;go_simp
   simp only [Act.put,List.setIfInBounds_toArray,List.set_cons_zero,List.set_cons_succ]
   refine wpH_takes (i:=5) (v:=.int .i64 (n:Nat)) (some 39) rfl rfl (by kernel_rfl) (by kernel_rfl) (by kernel_rfl) (fun _ _ _ h=>h) (Or.inl ⟨by rfl,?_⟩) hHeld ?_
   ·intro w' hSw;clear hSw;go_simp
   simp only [Act.put,List.setIfInBounds_toArray,List.set_cons_zero,List.set_cons_succ]
   refine wpH_takes (i:=6) (v:=.bool false) (some 40) rfl rfl (by kernel_rfl) (by kernel_rfl) (by kernel_rfl) (fun _ _ _ h=>h) (Or.inl ⟨by rfl,?_⟩) hHeld ?_
   ·intro w' hSw;clear hSw;go_simp;exact HJn.out
   simp only [Act.put,List.setIfInBounds_toArray,List.set_cons_zero,List.set_cons_succ]
   refine wpH_takes (i:=7) (v:=.bool false) (some 41) rfl rfl (by kernel_rfl) (by kernel_rfl) (by kernel_rfl) (fun _ _ _ h=>h) (Or.inl ⟨by rfl,?_⟩) hHeld ?_
   ·intro w' hSw;clear hSw;go_simp
   simp only [Act.put,List.setIfInBounds_toArray,List.set_cons_zero,List.set_cons_succ]
   refine wpH_takes (i:=8) (v:=.agg ([.int .i64 c2,.int .i64 s2]).toArray) (some 42) rfl rfl (by kernel_rfl) (by kernel_rfl) (by kernel_rfl) (fun _ _ _ h=>h) (Or.inl ⟨by rfl,fun w' hSw=>exec_load_row 36 (.tmp 10) rfl W.heap.size 0 rfl ([.int .i64 c2,.int .i64 s2]) _ (blk_range (HbA.out w' hSw)) Tryz.underlying36 rfl infoAddr2⟩) hHeld ?_
   simp only [Act.put,List.setIfInBounds_toArray,List.set_cons_zero,List.set_cons_succ]
   refine wpH_takes (i:=9) (v:=.pointer (some ⟨rn,0,none⟩)) (some 43) rfl rfl (by kernel_rfl) (by kernel_rfl) (by kernel_rfl) (fun _ _ _ h=>h) (Or.inl ⟨by rfl,?_⟩) hHeld ?_
   ·intro w' hSw;have s0:=(HV.out w' hSw).2.1;clear hSw;go_simp
   simp only [Act.put,List.setIfInBounds_toArray,List.set_cons_zero,List.set_cons_succ]
   refine wpH_takes (i:=10) (v:=.pointer (some ⟨rn,0,none⟩)) (some 44) rfl rfl (by kernel_rfl) (by kernel_rfl) (by kernel_rfl) (fun _ _ _ h=>h) (Or.inl ⟨by rfl,?_⟩) hHeld ?_
   ·intro w' hSw;clear hSw;go_simp
   simp only [Act.put,List.setIfInBounds_toArray,List.set_cons_zero,List.set_cons_succ]
   refine wpH_takes (i:=11) (v:=.pointer (some ⟨rn,0,none⟩)) (some 45) rfl rfl (by kernel_rfl) (by kernel_rfl) (by kernel_rfl) (fun _ _ _ h=>h) (Or.inl ⟨by rfl,?_⟩) hHeld ?_
   ·intro w' hSw;clear hSw;go_simp
   simp only [Act.put,List.setIfInBounds_toArray,List.set_cons_zero,List.set_cons_succ]
   refine wpH_takes (i:=12) (v:=.slice pn n cn) (some 46) rfl rfl (by kernel_rfl) (by kernel_rfl) (by kernel_rfl) (fun _ _ _ h=>h) (Or.inl ⟨by rfl,?_⟩) hHeld ?_
   ·intro w' hSw;have s0:=(HV.out w' hSw).2.2;clear hSw;go_simp
   simp only [Act.put,List.setIfInBounds_toArray,List.set_cons_zero,List.set_cons_succ]
   refine wpH_takes (i:=13) (v:=.int .i64 (j:Nat)) (some 47) rfl rfl (by kernel_rfl) (by kernel_rfl) (by kernel_rfl) (fun _ _ _ h=>h) (Or.inl ⟨by rfl,?_⟩) hHeld ?_
   ·intro w' hSw;have s0:=(HV.out w' hSw).1;clear hSw;go_simp
   simp only [Act.put,List.setIfInBounds_toArray,List.set_cons_zero,List.set_cons_succ]
   refine wpH_takes (i:=14) (v:=.pointer (some ⟨b,j * 23,none⟩)) (some 48) rfl rfl (by kernel_rfl) (by kernel_rfl) (by kernel_rfl) (fun _ _ _ h=>h) (Or.inl ⟨by rfl,?_⟩) hHeld ?_
   ·intro w' hSw;have s0:=HJ2.out.1;have s1:=HJ2.out.2;have s2:=HPb.out;clear hSw;go_simp
   simp only [Act.put,List.setIfInBounds_toArray,List.set_cons_zero,List.set_cons_succ]
   refine wpH_takes (i:=15) (v:=.pointer (some ⟨b,j * 23,none⟩)) (some 49) rfl rfl (by kernel_rfl) (by kernel_rfl) (by kernel_rfl) (fun _ _ _ h=>h) (Or.inl ⟨by rfl,?_⟩) hHeld ?_
   ·intro w' hSw;clear hSw;go_simp
   simp only [Act.put,List.setIfInBounds_toArray,List.set_cons_zero,List.set_cons_succ]
   refine wpH_takes (i:=16) (v:=.agg ([.int .i64 c2,.int .i64 s2]).toArray) (some 50) rfl rfl (by kernel_rfl) (by kernel_rfl) (by kernel_rfl) (fun _ _ _ h=>h) (Or.inl ⟨by rfl,fun w' hSw=>exec_load_row 36 (.tmp 49) rfl b (j * 23) rfl ([.int .i64 c2,.int .i64 s2]) _ ((HRw.out w' hSw).1) Tryz.underlying36 rfl infoAddr2⟩) hHeld ?_
   simp only [Act.put,List.setIfInBounds_toArray,List.set_cons_zero,List.set_cons_succ]
   refine wpH_takes (i:=17) (v:=.bool false) (some 51) rfl rfl (by kernel_rfl) (by kernel_rfl) (by kernel_rfl) (fun _ _ _ h=>h) (Or.inl ⟨by rfl,?_⟩) hHeld ?_
   ·intro w' hSw;clear hSw;go_simp
   simp only [Act.put,List.setIfInBounds_toArray,List.set_cons_zero,List.set_cons_succ]
   refine wpH_takes (i:=18) (v:=.bool false) (some 52) rfl rfl (by kernel_rfl) (by kernel_rfl) (by kernel_rfl) (fun _ _ _ h=>h) (Or.inl ⟨by rfl,?_⟩) hHeld ?_
   ·intro w' hSw;clear hSw;go_simp
   simp only [Act.put,List.setIfInBounds_toArray,List.set_cons_zero,List.set_cons_succ]
   refine wpH_takes (i:=19) (v:=.bool false) (some 53) rfl rfl (by kernel_rfl) (by kernel_rfl) (by kernel_rfl) (fun _ _ _ h=>h) (Or.inl ⟨by rfl,?_⟩) hHeld ?_
   ·intro w' hSw;clear hSw;go_simp
   simp only [Act.put,List.setIfInBounds_toArray,List.set_cons_zero,List.set_cons_succ]
   refine wpH_takes (i:=20) (v:=.agg (x.cells sx).toArray) (some 54) rfl rfl (by kernel_rfl) (by kernel_rfl) (by kernel_rfl) (fun _ _ _ h=>h) (Or.inl ⟨by rfl,fun w' hSw=>exec_load_content _ rfl rfl (HbC.out w' hSw) rfl⟩) hHeld ?_
   simp only [Act.put,List.setIfInBounds_toArray,List.set_cons_zero,List.set_cons_succ]
   refine wpH_takes (i:=21) (v:=.pointer (some ⟨rn,0,none⟩)) (some 55) rfl rfl (by kernel_rfl) (by kernel_rfl) (by kernel_rfl) (fun _ _ _ h=>h) (Or.inl ⟨by rfl,?_⟩) hHeld ?_
   ·intro w' hSw;have s0:=(HV.out w' hSw).2.1;clear hSw;go_simp
   simp only [Act.put,List.setIfInBounds_toArray,List.set_cons_zero,List.set_cons_succ]
   refine wpH_takes (i:=22) (v:=.pointer (some ⟨rn,0,none⟩)) (some 56) rfl rfl (by kernel_rfl) (by kernel_rfl) (by kernel_rfl) (fun _ _ _ h=>h) (Or.inl ⟨by rfl,?_⟩) hHeld ?_
   ·intro w' hSw;clear hSw;go_simp
   simp only [Act.put,List.setIfInBounds_toArray,List.set_cons_zero,List.set_cons_succ]
   refine wpH_takes (i:=23) (v:=.pointer (some ⟨rn,0,none⟩)) (some 57) rfl rfl (by kernel_rfl) (by kernel_rfl) (by kernel_rfl) (fun _ _ _ h=>h) (Or.inl ⟨by rfl,?_⟩) hHeld ?_
   ·intro w' hSw;clear hSw;go_simp
   simp only [Act.put,List.setIfInBounds_toArray,List.set_cons_zero,List.set_cons_succ]
   refine wpH_takes (i:=24) (v:=.slice pn n cn) (some 58) rfl rfl (by kernel_rfl) (by kernel_rfl) (by kernel_rfl) (fun _ _ _ h=>h) (Or.inl ⟨by rfl,?_⟩) hHeld ?_
   ·intro w' hSw;have s0:=(HV.out w' hSw).2.2;clear hSw;go_simp
   simp only [Act.put,List.setIfInBounds_toArray,List.set_cons_zero,List.set_cons_succ]
   refine wpH_takes (i:=25) (v:=.int .i64 (j:Nat)) (some 59) rfl rfl (by kernel_rfl) (by kernel_rfl) (by kernel_rfl) (fun _ _ _ h=>h) (Or.inl ⟨by rfl,?_⟩) hHeld ?_
   ·intro w' hSw;have s0:=(HV.out w' hSw).1;clear hSw;go_simp
   simp only [Act.put,List.setIfInBounds_toArray,List.set_cons_zero,List.set_cons_succ]
   refine wpH_takes (i:=26) (v:=.pointer (some ⟨b,j * 23,none⟩)) (some 60) rfl rfl (by kernel_rfl) (by kernel_rfl) (by kernel_rfl) (fun _ _ _ h=>h) (Or.inl ⟨by rfl,?_⟩) hHeld ?_
   ·intro w' hSw;have s0:=HJ2.out.1;have s1:=HJ2.out.2;have s2:=HPb.out;clear hSw;go_simp
   simp only [Act.put,List.setIfInBounds_toArray,List.set_cons_zero,List.set_cons_succ]
   refine wpH_takes (i:=27) (v:=.pointer (some ⟨b,j * 23+2,none⟩)) (some 61) rfl rfl (by kernel_rfl) (by kernel_rfl) (by kernel_rfl) (fun _ _ _ h=>h) (Or.inl ⟨by rfl,?_⟩) hHeld ?_
   ·intro w' hSw;clear hSw;go_simp
   simp only [Act.put,List.setIfInBounds_toArray,List.set_cons_zero,List.set_cons_succ]
   refine wpH_takes (i:=28) (v:=.agg (x.cells sr).toArray) (some 62) rfl rfl (by kernel_rfl) (by kernel_rfl) (by kernel_rfl) (fun _ _ _ h=>h) (Or.inl ⟨by rfl,fun w' hSw=>exec_load_row 46 (.tmp 61) rfl b (j * 23+2) rfl (x.cells sr) _ ((HRw.out w' hSw).2) Tryz.underlying46 rfl infoContent⟩) hHeld ?_
   simp only [Act.put,List.setIfInBounds_toArray,List.set_cons_zero,List.set_cons_succ]
   refine wpH_stepG (i:=29) (by kernel_rfl) rfl (by rfl) (fun K hK=>?_)
   go_simp
   refine (HJust.out _ ((Kp.refl V Nul).drew)).mono ?_
   rintro e v2 ⟨rfl,hk2⟩
   have KV2:Hid (Kp V v2 Nul):=((Kp.refl V Nul).drew).trans hk2
   refine hK.out _ _ KV2.out (fun hHeld=>?_)
   clear hK K hk2
   (try simp only [Act.put,List.setIfInBounds_toArray,List.set_cons_zero,List.set_cons_succ])
   refine wpH_takes (i:=30) (v:=.bool false) (some 64) rfl rfl (by kernel_rfl) (by kernel_rfl) (by kernel_rfl) (fun _ _ _ h=>h) (Or.inl ⟨by rfl,?_⟩) hHeld ?_
   ·intro w' hSw;clear hSw;go_simp
   simp only [Act.put,List.setIfInBounds_toArray,List.set_cons_zero,List.set_cons_succ]
   refine wpH_takes (i:=31) (v:=.bool false) (some 65) rfl rfl (by kernel_rfl) (by kernel_rfl) (by kernel_rfl) (fun _ _ _ h=>h) (Or.inl ⟨by rfl,?_⟩) hHeld ?_
   ·intro w' hSw;clear hSw;go_simp
   simp only [Act.put,List.setIfInBounds_toArray,List.set_cons_zero,List.set_cons_succ]
   refine wpAnyH_done (by kernel_rfl) ?_ _
   refine NoPanic.normal ?_
   clear hHeld
   gi_wp2_with (fail)
   refine regIn_noPanic ?_
   refine regIn_held (fun w':World=>Kp v2 w' Nul) (by kernel_rfl) (by kernel_rfl) (noPanic_lets (fun a w h=>Or.elim h (fun q=>Exit.noConfusion (And.left q)) (fun q=>Exit.noConfusion (And.left q)))) ((Kp.refl v2 Nul).drew) (fun hHeld=>?_)
   refine wpH_takes (i:=0) (v:=.int .i64 (j:Nat)) (some 66) rfl rfl (by kernel_rfl) (by kernel_rfl) (by kernel_rfl) (fun _ _ _ h=>h) (Or.inl ⟨by rfl,?_⟩) hHeld ?_
   ·intro w' hSw;have s0:=(HV.out w' (KV2.out.trans hSw)).1;clear hSw;go_simp
   simp only [Act.put,List.setIfInBounds_toArray,List.set_cons_zero,List.set_cons_succ]
   refine wpH_takes (i:=1) (v:=.pointer (some ⟨a+1+1,2,none⟩)) (some 67) rfl rfl (by kernel_rfl) (by kernel_rfl) (by kernel_rfl) (fun _ _ _ h=>h) (Or.inl ⟨by rfl,?_⟩) hHeld ?_
   ·intro w' hSw;clear hSw;go_simp
   simp only [Act.put,List.setIfInBounds_toArray,List.set_cons_zero,List.set_cons_succ]
   refine wpH_takes (i:=2) (v:=.int .i64 nn) (some 68) rfl rfl (by kernel_rfl) (by kernel_rfl) (by kernel_rfl) (fun _ _ _ h=>h) (Or.inl ⟨by rfl,?_⟩) hHeld ?_
   ·intro w' hSw;have s0:=(HOa.out w' (KV2.out.trans hSw)).c2;clear hSw;go_simp
   simp only [Act.put,List.setIfInBounds_toArray,List.set_cons_zero,List.set_cons_succ]
   refine wpH_step (i:=3) (by kernel_rfl) rfl rfl (fun K hK=>?_)
   go_simp
   refine (HPk3.out _).mono ?_
   rintro e vz ⟨rfl,hz⟩
   subst hz
   refine hK.out _ _ ((Kp.refl v2 Nul).drew) (fun hHeld=>?_)
   clear hK K
   (try simp only [Act.put,List.setIfInBounds_toArray,List.set_cons_zero,List.set_cons_succ])
   have KV3:Hid (Kp V v2 Nul):=KV2.out
   by_cases hj3:j=n3
   ·have hj3':((j:Int) == (n3:Int))=true:=by rw [beq_iff_eq];omega
    refine wpH_takes (i:=4) (v:=.bool true) (some 70) rfl rfl (by kernel_rfl) (by kernel_rfl) (by kernel_rfl) (fun _ _ _ h=>h) (Or.inl ⟨by rfl,?_⟩) hHeld ?_
    ·intro w' hSw;clear hSw;go_simp
    simp only [Act.put,List.setIfInBounds_toArray,List.set_cons_zero,List.set_cons_succ]
    refine wpAnyH_done (by kernel_rfl) ?_ _
    refine NoPanic.normal ?_
    clear hHeld
    clear hj3 hj3'
    gi_wp2_with (fail)
    refine regIn_noPanic ?_
    refine regIn_held (fun w':World=>LdW w' a xw bg br g r k on nn c s ct sl m1 m2 m3 m4) (by kernel_rfl) (by kernel_rfl) (noPanic_lets (fun a w h=>Or.elim h (fun q=>Exit.noConfusion (And.left q)) (fun q=>Exit.noConfusion (And.left q)))) (HWV.out.nul (KV3.out.drew.drew)).ld (fun hHeld=>?_)
    refine wpH_takes (i:=0) (v:=.pointer (some ⟨xw,0,none⟩)) (some 71) rfl rfl (by kernel_rfl) (by kernel_rfl) (by kernel_rfl) (fun _ _ _ h=>h) (Or.inl ⟨by rfl,?_⟩) hHeld ?_
    ·intro w' hSw;have s0:=(hSw).b0.cell (i:=0) rfl;clear hSw;go_simp
    simp only [Act.put,List.setIfInBounds_toArray,List.set_cons_zero,List.set_cons_succ]
    refine wpH_takes (i:=1) (v:=.pointer (some ⟨xw,0,none⟩)) (some 72) rfl rfl (by kernel_rfl) (by kernel_rfl) (by kernel_rfl) (fun _ _ _ h=>h) (Or.inl ⟨by rfl,?_⟩) hHeld ?_
    ·intro w' hSw;clear hSw;go_simp
    simp only [Act.put,List.setIfInBounds_toArray,List.set_cons_zero,List.set_cons_succ]
    refine wpH_takes (i:=2) (v:=.pointer (some ⟨xw,0,none⟩)) (some 73) rfl rfl (by kernel_rfl) (by kernel_rfl) (by kernel_rfl) (fun _ _ _ h=>h) (Or.inl ⟨by rfl,?_⟩) hHeld ?_
    ·intro w' hSw;clear hSw;go_simp
    simp only [Act.put,List.setIfInBounds_toArray,List.set_cons_zero,List.set_cons_succ]
    refine wpH_takes (i:=3) (v:=.slice (some ⟨bg,0,none⟩) 2 2) (some 74) rfl rfl (by kernel_rfl) (by kernel_rfl) (by kernel_rfl) (fun _ _ _ h=>h) (Or.inl ⟨by rfl,?_⟩) hHeld ?_
    ·intro w' hSw;have s0:=(hSw).pa.x0;clear hSw;go_simp
    simp only [Act.put,List.setIfInBounds_toArray,List.set_cons_zero,List.set_cons_succ]
    refine wpH_takes (i:=4) (v:=.int .i64 (k:Nat)) (some 75) rfl rfl (by kernel_rfl) (by kernel_rfl) (by kernel_rfl) (fun _ _ _ h=>h) (Or.inl ⟨by rfl,?_⟩) hHeld ?_
    ·intro w' hSw;have s0:=(hSw).b1.cell (i:=0) rfl;clear hSw;go_simp
    simp only [Act.put,List.setIfInBounds_toArray,List.set_cons_zero,List.set_cons_succ]
    refine wpH_takes (i:=5) (v:=.pointer (some ⟨bg,k,none⟩)) (some 76) rfl rfl (by kernel_rfl) (by kernel_rfl) (by kernel_rfl) (fun _ _ _ h=>h) (Or.inl ⟨by rfl,?_⟩) hHeld ?_
    ·intro w' hSw;have s0:=HKK.out.2.1;have s1:=HKK.out.2.2;clear hSw;go_simp
    simp only [Act.put,List.setIfInBounds_toArray,List.set_cons_zero,List.set_cons_succ]
    refine wpH_takes (i:=6) (v:=.pointer (some ⟨g k,0,none⟩)) (some 77) rfl rfl (by kernel_rfl) (by kernel_rfl) (by kernel_rfl) (fun _ _ _ h=>h) (Or.inl ⟨by rfl,?_⟩) hHeld ?_
    ·intro w' hSw;have s0:=(hSw).pa.g k HKK.out.1;clear hSw;go_simp
    simp only [Act.put,List.setIfInBounds_toArray,List.set_cons_zero,List.set_cons_succ]
    refine wpH_takes (i:=7) (v:=.pointer (some ⟨a+1+1,3,none⟩)) (some 78) rfl rfl (by kernel_rfl) (by kernel_rfl) (by kernel_rfl) (fun _ _ _ h=>h) (Or.inl ⟨by rfl,?_⟩) hHeld ?_
    ·intro w' hSw;clear hSw;go_simp
    simp only [Act.put,List.setIfInBounds_toArray,List.set_cons_zero,List.set_cons_succ]
    refine wpH_takes (i:=8) (v:=.agg ([.int .i64 c,.int .i64 s]).toArray) (some 79) rfl rfl (by kernel_rfl) (by kernel_rfl) (by kernel_rfl) (fun _ _ _ h=>h) (Or.inl ⟨by rfl,fun w' hSw=>exec_load_row 36 (.tmp 78) rfl (a+1+1) 3 rfl ([.int .i64 c,.int .i64 s]) _ ((opC_at hSw.b2).at') Tryz.underlying36 rfl infoAddr2⟩) hHeld ?_
    simp only [Act.put,List.setIfInBounds_toArray,List.set_cons_zero,List.set_cons_succ]
    refine wpH_takes (i:=9) (v:=.pointer (some ⟨a+1+1,5,none⟩)) (some 80) rfl rfl (by kernel_rfl) (by kernel_rfl) (by kernel_rfl) (fun _ _ _ h=>h) (Or.inl ⟨by rfl,?_⟩) hHeld ?_
    ·intro w' hSw;clear hSw;go_simp
    simp only [Act.put,List.setIfInBounds_toArray,List.set_cons_zero,List.set_cons_succ]
    refine wpH_takes (i:=10) (v:=.agg (ct.cells sl).toArray) (some 81) rfl rfl (by kernel_rfl) (by kernel_rfl) (by kernel_rfl) (fun _ _ _ h=>h) (Or.inl ⟨by rfl,fun w' hSw=>exec_load_row 46 (.tmp 80) rfl (a+1+1) 5 rfl (ct.cells sl) _ ((opC_at hSw.b2).ct) Tryz.underlying46 rfl infoContent⟩) hHeld ?_
    simp only [Act.put,List.setIfInBounds_toArray,List.set_cons_zero,List.set_cons_succ]
    refine wpH_step (i:=11) (by kernel_rfl) rfl rfl (fun K hK=>?_)
    go_simp
    refine (HOwn.out _ (KV3.out.drew.drew)).mono ?_
    rintro e v4 ⟨so,fo,rfl,ho4,hk4⟩
    have KV4:Hid (Kp V v4 Nul):=KV3.out.drew.drew.trans hk4
    have HO4:Hid (NdIn v4 (fun _=>True) so ct.t):=ho4.own.isIn (fun _ _=>trivial)
    have HW4:Hid (WhS w0 B xw bg br g r k a b7 bn rn (.slice pn n cn) zs on nn c s ct sl m1 m2 m3 m4 j v4):=HWV.out.nul KV4.out
    refine hK.out _ _ HW4.out.ld (fun hHeld=>?_)
    clear hK K hk4 ho4
    (try simp only [Act.put,List.setIfInBounds_toArray,List.set_cons_zero,List.set_cons_succ])
    refine wpH_step (i:=12) (by kernel_rfl) rfl rfl (fun K hK=>?_)
    go_simp
    refine (HPut.out v4 so KV4.out HO4.out).mono ?_
    rintro e v5 ⟨L',rfl,hg5,ho5,ha5,hkm5⟩
    have HM5:Hid (Km (g k) v4 v5):=hkm5
    have HBg4:Hid (Blk v4 (g k) [.map mv] 68):=HBgV.out.kp KV4.out (fun x=>x)
    have HP4:Hid (PlayS v4 B xw bg br g r L2 K2 y2 z2):=HPV.out.nul KV4.out
    have HG5:Hid (GG FA v5 B g (upd L2 k L')):=HP4.out.gg.km (Nat.le_trans HB1.out (Nat.le_trans HSzV.out.1 KV4.out.size)) hk hkm5 hg5 ho5
    have HD5:Hid (DD v5 B r y2 z2):=HP4.out.dd.km hkm5 HBg4.out
    have HPP5:Hid (PP v5 B xw bg br g r):=HP4.out.pp.km hkm5 HBg4.out
    have HL5:Hid (Ok17 L'∧Al L' (rpK (gv ct) (K2 k) lo c s ct)):=⟨ho5,ha5⟩
    have HK5':Hid (Kp w0 v5 Nul):=HW4.out.kp.trans' (HP4.out.gg.old hk hkm5) (fun i hi e=>by have e':B≤i:=e;have:=HO.out.lo;omega)
    have HX5:Hid (DG v5 0 rn (.slice pn n cn) zs∧Blk v5 a [.pointer (some ⟨xw,0,none⟩)] 24∧Blk v5 (a+1) [.int .i64 (k:Nat)] 3∧Blk v5 (a+1+1) (opC on 8 nn c s ct sl m1 m2 m3 m4) 50∧Blk v5 (a+1+1+1) [.bool false] 4∧Blk v5 b7 [.pointer (some ⟨rn,0,none⟩)] 28∧Blk v5 bn [.int .i64 (j:Nat)] 3):=⟨HW4.out.dn.km hkm5 HBg4.out,hkm5.blk HW4.out.b0 (Blk.ne HW4.out.b0 HBg4.out (by decide)),hkm5.blk HW4.out.b1 (Blk.ne HW4.out.b1 HBg4.out (by decide)),hkm5.blk HW4.out.b2 (Blk.ne HW4.out.b2 HBg4.out (by decide)),hkm5.blk HW4.out.b3 (Blk.ne HW4.out.b3 HBg4.out (by decide)),hkm5.blk HW4.out.b7 (Blk.ne HW4.out.b7 HBg4.out (by decide)),hkm5.blk HW4.out.bn (Blk.ne HW4.out.bn HBg4.out (by decide))⟩
    have HLd5:Hid (LdW v5 a xw bg br g r k on nn c s ct sl m1 m2 m3 m4):=⟨HX5.out.2.1,HX5.out.2.2.1,HX5.out.2.2.2.1,HPP5.out.at'⟩
    refine hK.out _ _ HLd5.out (fun hHeld=>?_)
    clear hK K hg5 ho5 ha5 hkm5
    (try simp only [Act.put,List.setIfInBounds_toArray,List.set_cons_zero,List.set_cons_succ])
    refine wpH_takes (i:=13) (v:=.int .i64 (re:Nat)) (some 12) rfl rfl (by kernel_rfl) (by kernel_rfl) (by kernel_rfl) (fun _ _ _ h=>h) (Or.inl ⟨by rfl,?_⟩) hHeld ?_
    ·intro w' hSw;clear hSw;go_simp
    simp only [Act.put,List.setIfInBounds_toArray,List.set_cons_zero,List.set_cons_succ]
    refine wpAnyH_done (by kernel_rfl) ?_ _
    refine NoPanic.normal ?_
    clear hHeld
    gi_wp2_with (fail)
    refine regIn_noPanic ?_
    refine regIn_held (fun w':World=>LdW w' a xw bg br g r k on nn c s ct sl m1 m2 m3 m4) (by kernel_rfl) (by kernel_rfl) (noPanic_lets (fun a w h=>Or.elim h (fun q=>Exit.noConfusion (And.left q)) (fun q=>Exit.noConfusion (And.left q)))) ⟨HLd5.out.b0.drew,HLd5.out.b1.drew,HLd5.out.b2.drew,(HPP5.out.nul ((Kp.refl _ _).drew)).at'⟩ (fun hHeld=>?_)
    refine wpH_takes (i:=0) (v:=.int .i64 (re:Nat)) (some 84) rfl rfl (by kernel_rfl) (by kernel_rfl) (by kernel_rfl) (fun _ _ _ h=>h) (Or.inl ⟨by rfl,?_⟩) hHeld ?_
    ·intro w' hSw;clear hSw;go_simp
    simp only [Act.put,List.setIfInBounds_toArray,List.set_cons_zero,List.set_cons_succ]
    refine wpH_takes (i:=1) (v:=.pointer (some ⟨xw,0,none⟩)) (some 85) rfl rfl (by kernel_rfl) (by kernel_rfl) (by kernel_rfl) (fun _ _ _ h=>h) (Or.inl ⟨by rfl,?_⟩) hHeld ?_
    ·intro w' hSw;have s0:=(hSw).b0.cell (i:=0) rfl;clear hSw;go_simp
    simp only [Act.put,List.setIfInBounds_toArray,List.set_cons_zero,List.set_cons_succ]
    refine wpH_takes (i:=2) (v:=.pointer (some ⟨xw,0,none⟩)) (some 86) rfl rfl (by kernel_rfl) (by kernel_rfl) (by kernel_rfl) (fun _ _ _ h=>h) (Or.inl ⟨by rfl,?_⟩) hHeld ?_
    ·intro w' hSw;clear hSw;go_simp
    simp only [Act.put,List.setIfInBounds_toArray,List.set_cons_zero,List.set_cons_succ]
    refine wpH_takes (i:=3) (v:=.pointer (some ⟨xw,1,none⟩)) (some 87) rfl rfl (by kernel_rfl) (by kernel_rfl) (by kernel_rfl) (fun _ _ _ h=>h) (Or.inl ⟨by rfl,?_⟩) hHeld ?_
    ·intro w' hSw;clear hSw;go_simp
    simp only [Act.put,List.setIfInBounds_toArray,List.set_cons_zero,List.set_cons_succ]
    refine wpH_takes (i:=4) (v:=.slice (some ⟨br,0,none⟩) 2 2) (some 88) rfl rfl (by kernel_rfl) (by kernel_rfl) (by kernel_rfl) (fun _ _ _ h=>h) (Or.inl ⟨by rfl,?_⟩) hHeld ?_
    ·intro w' hSw;have s0:=(hSw).pa.x1;clear hSw;go_simp
    simp only [Act.put,List.setIfInBounds_toArray,List.set_cons_zero,List.set_cons_succ]
    refine wpH_takes (i:=5) (v:=.int .i64 (k:Nat)) (some 89) rfl rfl (by kernel_rfl) (by kernel_rfl) (by kernel_rfl) (fun _ _ _ h=>h) (Or.inl ⟨by rfl,?_⟩) hHeld ?_
    ·intro w' hSw;have s0:=(hSw).b1.cell (i:=0) rfl;clear hSw;go_simp
    simp only [Act.put,List.setIfInBounds_toArray,List.set_cons_zero,List.set_cons_succ]
    refine wpH_takes (i:=6) (v:=.pointer (some ⟨br,k,none⟩)) (some 90) rfl rfl (by kernel_rfl) (by kernel_rfl) (by kernel_rfl) (fun _ _ _ h=>h) (Or.inl ⟨by rfl,?_⟩) hHeld ?_
    ·intro w' hSw;have s0:=HKK.out.2.1;have s1:=HKK.out.2.2;clear hSw;go_simp
    simp only [Act.put,List.setIfInBounds_toArray,List.set_cons_zero,List.set_cons_succ]
    refine wpH_takes (i:=7) (v:=.pointer (some ⟨r k,0,none⟩)) (some 91) rfl rfl (by kernel_rfl) (by kernel_rfl) (by kernel_rfl) (fun _ _ _ h=>h) (Or.inl ⟨by rfl,?_⟩) hHeld ?_
    ·intro w' hSw;have s0:=(hSw).pa.r k HKK.out.1;clear hSw;go_simp
    simp only [Act.put,List.setIfInBounds_toArray,List.set_cons_zero,List.set_cons_succ]
    refine wpH_takes (i:=8) (v:=.pointer (some ⟨a+1+1,3,none⟩)) (some 92) rfl rfl (by kernel_rfl) (by kernel_rfl) (by kernel_rfl) (fun _ _ _ h=>h) (Or.inl ⟨by rfl,?_⟩) hHeld ?_
    ·intro w' hSw;clear hSw;go_simp
    simp only [Act.put,List.setIfInBounds_toArray,List.set_cons_zero,List.set_cons_succ]
    refine wpH_takes (i:=9) (v:=.agg ([.int .i64 c,.int .i64 s]).toArray) (some 93) rfl rfl (by kernel_rfl) (by kernel_rfl) (by kernel_rfl) (fun _ _ _ h=>h) (Or.inl ⟨by rfl,fun w' hSw=>exec_load_row 36 (.tmp 92) rfl (a+1+1) 3 rfl ([.int .i64 c,.int .i64 s]) _ ((opC_at hSw.b2).at') Tryz.underlying36 rfl infoAddr2⟩) hHeld ?_
    simp only [Act.put,List.setIfInBounds_toArray,List.set_cons_zero,List.set_cons_succ]
    refine wpH_takes (i:=10) (v:=.pointer (some ⟨a+1+1,5,none⟩)) (some 94) rfl rfl (by kernel_rfl) (by kernel_rfl) (by kernel_rfl) (fun _ _ _ h=>h) (Or.inl ⟨by rfl,?_⟩) hHeld ?_
    ·intro w' hSw;clear hSw;go_simp
    simp only [Act.put,List.setIfInBounds_toArray,List.set_cons_zero,List.set_cons_succ]
    refine wpH_takes (i:=11) (v:=.agg (ct.cells sl).toArray) (some 95) rfl rfl (by kernel_rfl) (by kernel_rfl) (by kernel_rfl) (fun _ _ _ h=>h) (Or.inl ⟨by rfl,fun w' hSw=>exec_load_row 46 (.tmp 94) rfl (a+1+1) 5 rfl (ct.cells sl) _ ((opC_at hSw.b2).ct) Tryz.underlying46 rfl infoContent⟩) hHeld ?_
    simp only [Act.put,List.setIfInBounds_toArray,List.set_cons_zero,List.set_cons_succ]
    refine wpH_step (i:=12) (by kernel_rfl) rfl rfl (fun K hK=>?_)
    go_simp
    refine (HRPut.out _ HK5'.out.drew (Nat.le_trans HB1.out (Nat.le_trans (Nat.le_trans HSzV.out.1 KV4.out.size) HM5.out.kp.size)) ((HD5.out.nul ((Kp.refl _ _).drew)).dg k hk)).mono ?_
    rintro e v6 ⟨v',ys',rfl,hd6,hy6,hk6⟩
    have hk56:Kp v5 v6 (fun i=>i=r k):=(Kp.refl v5 (fun i=>i=r k)).drew.trans hk6
    have hbr:=(HD5.out.dg k hk).box
    have HP6:Hid (PlayS v6 B xw bg br g r (upd L2 k L') (upd K2 k (rpK (gv ct) (K2 k) lo c s ct)) (upd y2 k v') (upd z2 k ys')):=⟨HG5.out.off hk56 hbr (HD5.out.dg k hk).plain,HD5.out.step hk hk56 hd6,HPP5.out.off hk56 hbr,HPV.out.kk.step HL5.out.2 hy6 (rpK_tx (HPV.out.kk.tx k hk) HO.out.tx)⟩
    have HW6:Hid (WhS w0 B xw bg br g r k a b7 bn rn (.slice pn n cn) zs on nn c s ct sl m1 m2 m3 m4 j v6):=⟨⟨_,_,_,_,HP6.out⟩,HX5.out.1.off hk56 hbr (HD5.out.dg k hk).plain (by decide) (fun e=>by have e':rn=r k:=e;have h1:=HRn.out;omega),HX5.out.2.1.kp hk56 (Blk.ne HX5.out.2.1 hbr (by decide)),HX5.out.2.2.1.kp hk56 (Blk.ne HX5.out.2.2.1 hbr (by decide)),HX5.out.2.2.2.1.kp hk56 (Blk.ne HX5.out.2.2.2.1 hbr (by decide)),HX5.out.2.2.2.2.1.kp hk56 (Blk.ne HX5.out.2.2.2.2.1 hbr (by decide)),HX5.out.2.2.2.2.2.1.kp hk56 (Blk.ne HX5.out.2.2.2.2.2.1 hbr (by decide)),HX5.out.2.2.2.2.2.2.kp hk56 (Blk.ne HX5.out.2.2.2.2.2.2 hbr (by decide)),HK5'.out.trans' hk56 (fun i hi e=>by have e':i=r k:=e;have h1:=HD5.out.lo k hk;have h2:=HO.out.lo;omega)⟩
    have HK56:Hid (Kp v5 v6 (fun i=>i=r k)):=hk56
    have HGk6':Hid (v6.heap[g k]? = v5.heap[g k]?):=hk56.block _ (HG5.out.lt hk) (fun e=>by
     have e':g k=r k:=e
     obtain ⟨mv',hb'⟩:=(HG5.out.g0 hk).blk
     exact Blk.ne hbr hb' (by decide) e'.symm)
    refine hK.out _ _ HW6.out.ld (fun hHeld=>?_)
    clear hK K hd6 hy6 hk6 hk56 hbr
    (try simp only [Act.put,List.setIfInBounds_toArray,List.set_cons_zero,List.set_cons_succ])
    refine wpH_takes (i:=13) (v:=.bool false) (some 97) rfl rfl (by kernel_rfl) (by kernel_rfl) (by kernel_rfl) (fun _ _ _ h=>h) (Or.inl ⟨by rfl,?_⟩) hHeld ?_
    ·intro w' hSw;clear hSw;go_simp
    simp only [Act.put,List.setIfInBounds_toArray,List.set_cons_zero,List.set_cons_succ]
    refine wpAnyH_done (by kernel_rfl) ?_ _
    refine NoPanic.normal ?_
    clear hHeld
    have HGV4:Hid (v4.heap[g k]? = W.heap[g k]?):=(KV4.out.block _ HBgV.out.lt (fun x=>x)).trans HGV.out
    have HKV6:Hid (Kp V v6 (fun i=>(Z i∨wtQ ((((c2,s2),x),sx),fp) i)∨W.heap.size≤i)):=(KV4.out.of_nul.trans (HM5.out.kp.mono (fun i _ e=>by
     rcases e with e|⟨e,_⟩
     ·exact .inl (.inl ((HZ.out i).2 (.inr (.inr (.inl e)))))
     ·rw [HGV4.out] at e
      exact .inl (.inl ((HZ.out i).2 (.inr (.inr (.inr e)))))))).trans (HK56.out.mono (fun i _ e=>.inl (.inl ((HZ.out i).2 (.inr (.inl e))))))
    have HOwnM:Hid (∀ m,v6.heap[g k]? = some (.cells #[.map (some m)] 68 (0,0))→w6.heap[g k]? = some (.cells #[.map (some m)] 68 (0,0))∨w6.heap.size+2≤m):=fun m hm=>by
     rw [HGk6'.out] at hm
     rcases HM5.out.own m hm with q|q
     ·rw [HGV4.out] at q;exact HI3.out m q
     ·have h1:=KV4.out.size;have h2:=HSzV.out.2;have h3:=HSW.out;exact .inr (by omega)
    have HMore:Hid (∀ i,v6.heap[g k]? = some (.cells #[.map (some i)] 68 (0,0))→Z i∨W.heap.size≤i):=fun m hm=>by
     rw [HGk6'.out] at hm
     rcases HM5.out.own m hm with q|q
     ·rw [HGV4.out] at q;exact .inl ((HZ.out m).2 (.inr (.inr (.inr q))))
     ·have h1:=KV4.out.size;have h2:=HSzV.out.2;exact .inr (by omega)
    have z3:v6.cell? ⟨bn,0,none⟩=some (.int .i64 (j:Nat)):=HW6.out.bn.cell rfl
    have f3:v6.frozen? ⟨bn,0,none⟩=false:=HW6.out.bn.froz 0
    obtain ⟨Y,hY⟩:∃ Y,v6.setCell ⟨bn,0,none⟩ (.int .i64 ((j:Int)+1))=Y:=⟨_,rfl⟩
    have HY:Hid (v6.setCell ⟨bn,0,none⟩ (.int .i64 ((j:Int)+1))=Y):=hY
    have kY:Kp v6 Y (fun i=>i=bn):=by rw [← hY];exact (Kp.refl v6 (fun i=>i=bn)).setCell _ _ (.inr rfl)
    have HWY:Hid (WhS w0 B xw bg br g r k a b7 bn rn (.slice pn n cn) zs on nn c s ct sl m1 m2 m3 m4 (j+1) Y):=HW6.out.bump kY (by rw [← hY];exact HW6.out.bn.set 0 _) (by have:=HS6.out;omega) (fun i hi=>by have h1:=HS6.out;have h2:=HO.out.lo;have h3:=HB1.out;have h4:=HS1.out;omega)
    have HGY:Hid (Y.heap[g k]? = v6.heap[g k]?):=kY.block _ (HP6.out.gg.lt hk) (fun e=>HGbn.out e)
    have HKY:Hid (Kp V Y (fun i=>(Z i∨wtQ ((((c2,s2),x),sx),fp) i)∨W.heap.size≤i)):=(HKV6.out).trans (kY.mono (fun i _ e=>.inl (.inl ((HZ.out i).2 (.inl e)))))
    have HEnd:Hid (Kp V Y (fun i=>(Z i∨wtQ ((((c2,s2),x),sx),fp) i)∨W.heap.size≤i)∧∃ Z',WhI w0 B xw bg br g r k a b7 bn rn (.slice pn n cn) zs on nn c s ct sl m1 m2 m3 m4 w6 (j+1) Z' Y∧More Z Z' W):=by
     refine ⟨HKY.out,fun i=>i=bn∨i=r k∨i=g k∨Y.heap[g k]? = some (.cells #[.map (some i)] 68 (0,0)),⟨fun Y' q=>HWY.out.stay q (HOffs.out Y HKY.out) (fun i hi e=>?_),fun i=>Iff.rfl,fun m hm=>?_⟩,fun i e=>?_⟩
     ·have h1:=HS6.out;have h2:=HO.out.lo;have h3:=HB1.out;have h4:=HS1.out
      rcases e with e|e <;> omega
     ·rw [HGY.out] at hm
      exact HOwnM.out m hm
     ·rcases e with e|e|e|e
      ·exact .inl ((HZ.out i).2 (.inl e))
      ·exact .inl ((HZ.out i).2 (.inr (.inl e)))
      ·exact .inl ((HZ.out i).2 (.inr (.inr (.inl e))))
      ·rw [HGY.out] at e
       exact HMore.out i e
    clear kY hY
    gi_wp2_with (first|(rw [HY.out])|fail)
    first
    | exact .inl ⟨rfl,HEnd.out⟩
    | exact HEnd.out
   ·have hj3':((j:Int) == (n3:Int))=false:=by rw [beq_eq_false_iff_ne];omega
    refine wpH_takes (i:=4) (v:=.bool false) (some 70) rfl rfl (by kernel_rfl) (by kernel_rfl) (by kernel_rfl) (fun _ _ _ h=>h) (Or.inl ⟨by rfl,?_⟩) hHeld ?_
    ·intro w' hSw;clear hSw;go_simp
    simp only [Act.put,List.setIfInBounds_toArray,List.set_cons_zero,List.set_cons_succ]
    refine wpAnyH_done (by kernel_rfl) ?_ _
    refine NoPanic.normal ?_
    clear hHeld
    clear hj3 hj3'
    obtain ⟨v3,hv3⟩:∃ v3,v2.drew=v3:=⟨_,rfl⟩
    have KV4:Hid (Kp V v3 Nul):=by rw [← hv3];exact KV3.out.drew
    rw [hv3]
    clear hv3
    have HW6:Hid (WhS w0 B xw bg br g r k a b7 bn rn (.slice pn n cn) zs on nn c s ct sl m1 m2 m3 m4 j v3):=HWV.out.nul KV4.out
    have HGV4:Hid (v3.heap[g k]? = W.heap[g k]?):=(KV4.out.block _ HBgV.out.lt (fun x=>x)).trans HGV.out
    have HOwnM:Hid (∀ m,v3.heap[g k]? = some (.cells #[.map (some m)] 68 (0,0))→w6.heap[g k]? = some (.cells #[.map (some m)] 68 (0,0))∨w6.heap.size+2≤m):=fun m hm=>by rw [HGV4.out] at hm;exact HI3.out m hm
    have HMore:Hid (∀ i,v3.heap[g k]? = some (.cells #[.map (some i)] 68 (0,0))→Z i∨W.heap.size≤i):=fun m hm=>by rw [HGV4.out] at hm;exact .inl ((HZ.out m).2 (.inr (.inr (.inr hm))))
    have z3:v3.cell? ⟨bn,0,none⟩=some (.int .i64 (j:Nat)):=HW6.out.bn.cell rfl
    have f3:v3.frozen? ⟨bn,0,none⟩=false:=HW6.out.bn.froz 0
    obtain ⟨Y,hY⟩:∃ Y,v3.setCell ⟨bn,0,none⟩ (.int .i64 ((j:Int)+1))=Y:=⟨_,rfl⟩
    have HY:Hid (v3.setCell ⟨bn,0,none⟩ (.int .i64 ((j:Int)+1))=Y):=hY
    have kY:Kp v3 Y (fun i=>i=bn):=by rw [← hY];exact (Kp.refl v3 (fun i=>i=bn)).setCell _ _ (.inr rfl)
    have HWY:Hid (WhS w0 B xw bg br g r k a b7 bn rn (.slice pn n cn) zs on nn c s ct sl m1 m2 m3 m4 (j+1) Y):=HW6.out.bump kY (by rw [← hY];exact HW6.out.bn.set 0 _) (by have:=HS6.out;omega) (fun i hi=>by have h1:=HS6.out;have h2:=HO.out.lo;have h3:=HB1.out;have h4:=HS1.out;omega)
    have HGY:Hid (Y.heap[g k]? = v3.heap[g k]?):=kY.block _ (Nat.lt_of_lt_of_le HBgV.out.lt KV4.out.size) (fun e=>HGbn.out e)
    have HKY:Hid (Kp V Y (fun i=>(Z i∨wtQ ((((c2,s2),x),sx),fp) i)∨W.heap.size≤i)):=(KV4.out.of_nul).trans (kY.mono (fun i _ e=>.inl (.inl ((HZ.out i).2 (.inl e)))))
    have HEnd:Hid (Kp V Y (fun i=>(Z i∨wtQ ((((c2,s2),x),sx),fp) i)∨W.heap.size≤i)∧∃ Z',WhI w0 B xw bg br g r k a b7 bn rn (.slice pn n cn) zs on nn c s ct sl m1 m2 m3 m4 w6 (j+1) Z' Y∧More Z Z' W):=by
     refine ⟨HKY.out,fun i=>i=bn∨i=r k∨i=g k∨Y.heap[g k]? = some (.cells #[.map (some i)] 68 (0,0)),⟨fun Y' q=>HWY.out.stay q (HOffs.out Y HKY.out) (fun i hi e=>?_),fun i=>Iff.rfl,fun m hm=>?_⟩,fun i e=>?_⟩
     ·have h1:=HS6.out;have h2:=HO.out.lo;have h3:=HB1.out;have h4:=HS1.out
      rcases e with e|e <;> omega
     ·rw [HGY.out] at hm
      exact HOwnM.out m hm
     ·rcases e with e|e|e|e
      ·exact .inl ((HZ.out i).2 (.inl e))
      ·exact .inl ((HZ.out i).2 (.inr (.inl e)))
      ·exact .inl ((HZ.out i).2 (.inr (.inr (.inl e))))
      ·rw [HGY.out] at e
       exact HMore.out i e
    clear kY hY
    gi_wp2_with (first|(rw [HY.out])|fail)
    first
    | exact .inl ⟨rfl,HEnd.out⟩
    | exact HEnd.out
  case hdone=>
   subst hact
   rintro D Z W hD ⟨h1,h2,h3⟩ hdef
   have HWe:Hid (WhS w0 B xw bg br g r k a b7 bn rn (.slice pn n cn) zs on nn c s ct sl m1 m2 m3 m4 (K k).length W):=h1 W (Kp.refl _ _)
   have HDf:Hid (W.heap[D]? = some (.deferred (some []))):=hdef
   have HDD:Hid (D=bn+1∧a+4≤bn):=⟨hD.trans hs6,HS6.out.2⟩
   have hKn:(K k).length=n:=by rw [← HZs.out.1,List.length_map,hn]
   have HVE:Hid (∀ wq,Kp W wq (fun i=>i=a+1+1+1)→wq.cell? ⟨bn,0,none⟩=some (.int .i64 (n:Nat))∧wq.cell? ⟨b7,0,none⟩=some (.pointer (some ⟨rn,0,none⟩))∧wq.cell? ⟨rn,0,none⟩=some (.slice pn n cn)):=fun wq q=>by
    have h4:=(HWe.out.bn.kp q (Blk.ne HWe.out.bn HWe.out.b3 (by decide))).cell (i:=0) rfl
    rw [hKn] at h4
    exact ⟨h4,(HWe.out.b7.kp q (Blk.ne HWe.out.b7 HWe.out.b3 (by decide))).cell rfl,(HWe.out.dn.box.kp q (Blk.ne HWe.out.dn.box HWe.out.b3 (by decide))).cell rfl⟩
   have y1:W.drew.cell? ⟨a+1+1+1,0,none⟩=some (.bool false):=HWe.out.b3.drew.cell rfl
   have f1:W.drew.frozen? ⟨a+1+1+1,0,none⟩=false:=HWe.out.b3.drew.froz 0
   clear h1 h2 h3 hD hdef hKn HW0 k16 k56 hs6
   go_wp2_with fail
   refine wp_region_noPanic ?_
   refine wp_region_hel (fun w':World=>Kp W w' (fun i=>i=a+1+1+1)) (by kernel_rfl) ((Kp.refl W _).drew) (fun hHeld=>?_)
   refine wpH_takes (i:=0) (v:=.int .i64 (n:Nat)) (some 100) rfl rfl (by kernel_rfl) (by kernel_rfl) (by kernel_rfl) (fun _ _ _ h=>h) (Or.inl ⟨by rfl,?_⟩) hHeld ?_
   ·intro w' hSw;have s0:=(HVE.out w' hSw).1;clear hSw;go_simp
   simp only [Act.put,List.setIfInBounds_toArray,List.set_cons_zero,List.set_cons_succ]
   refine wpH_takes (i:=1) (v:=.pointer (some ⟨rn,0,none⟩)) (some 101) rfl rfl (by kernel_rfl) (by kernel_rfl) (by kernel_rfl) (fun _ _ _ h=>h) (Or.inl ⟨by rfl,?_⟩) hHeld ?_
   ·intro w' hSw;have s0:=(HVE.out w' hSw).2.1;clear hSw;go_simp
   simp only [Act.put,List.setIfInBounds_toArray,List.set_cons_zero,List.set_cons_succ]
   refine wpH_takes (i:=2) (v:=.pointer (some ⟨rn,0,none⟩)) (some 102) rfl rfl (by kernel_rfl) (by kernel_rfl) (by kernel_rfl) (fun _ _ _ h=>h) (Or.inl ⟨by rfl,?_⟩) hHeld ?_
   ·intro w' hSw;clear hSw;go_simp
   simp only [Act.put,List.setIfInBounds_toArray,List.set_cons_zero,List.set_cons_succ]
   refine wpH_takes (i:=3) (v:=.pointer (some ⟨rn,0,none⟩)) (some 103) rfl rfl (by kernel_rfl) (by kernel_rfl) (by kernel_rfl) (fun _ _ _ h=>h) (Or.inl ⟨by rfl,?_⟩) hHeld ?_
   ·intro w' hSw;clear hSw;go_simp
   simp only [Act.put,List.setIfInBounds_toArray,List.set_cons_zero,List.set_cons_succ]
   refine wpH_takes (i:=4) (v:=.slice pn n cn) (some 104) rfl rfl (by kernel_rfl) (by kernel_rfl) (by kernel_rfl) (fun _ _ _ h=>h) (Or.inl ⟨by rfl,?_⟩) hHeld ?_
   ·intro w' hSw;have s0:=(HVE.out w' hSw).2.2;clear hSw;go_simp
   simp only [Act.put,List.setIfInBounds_toArray,List.set_cons_zero,List.set_cons_succ]
   refine wpH_takes (i:=5) (v:=.int .i64 (n:Nat)) (some 105) rfl rfl (by kernel_rfl) (by kernel_rfl) (by kernel_rfl) (fun _ _ _ h=>h) (Or.inl ⟨by rfl,?_⟩) hHeld ?_
   ·intro w' hSw;clear hSw;go_simp
   simp only [Act.put,List.setIfInBounds_toArray,List.set_cons_zero,List.set_cons_succ]
   refine wpH_takes (i:=6) (v:=.bool true) (some 106) rfl rfl (by kernel_rfl) (by kernel_rfl) (by kernel_rfl) (fun _ _ _ h=>h) (Or.inl ⟨by rfl,?_⟩) hHeld ?_
   ·intro w' hSw;clear hSw;go_simp
   simp only [Act.put,List.setIfInBounds_toArray,List.set_cons_zero,List.set_cons_succ]
   refine wpH_step (i:=7) (by kernel_rfl) rfl rfl (fun K hK=>?_)
   go_simp
   refine hK.out _ _ (((Kp.refl W (fun i=>i=a+1+1+1)).setCell ⟨a+1+1+1,0,none⟩ (.bool true) (.inr rfl)).drew) (fun hHeld=>?_)
   clear hK K
   refine wpAnyH_done (by kernel_rfl) ?_ _
   refine NoPanic.normal ?_
   have kS:Kp W (W.setCell ⟨a+1+1+1,0,none⟩ (.bool true)).drew (fun i=>i=a+1+1+1):=((Kp.refl W (fun i=>i=a+1+1+1)).setCell ⟨a+1+1+1,0,none⟩ (.bool true) (.inr rfl)).drew
   have hX2:(W.setCell ⟨a+1+1+1,0,none⟩ (.bool true)).drew.heap[D]? = some (.deferred (some [])):=(kS.block D (Array.getElem?_eq_some_iff.1 HDf.out).1 (fun e=>by have e':D=a+1+1+1:=e;have:=HDD.out;omega)).trans HDf.out
   have hB2:Blk (W.setCell ⟨a+1+1+1,0,none⟩ (.bool true)).drew (a+1+1+1) [.bool true] 4:=(HWe.out.b3.set 0 (.bool true)).drew
   have HE:Hid (StR w0 B xw bg br (.returned (.bool true)) ((W.setCell ⟨a+1+1+1,0,none⟩ (.bool true)).drew.putObj D (.deferred none))):=by
    obtain ⟨L2,K2,y2,z2,hp⟩:=HWe.out.pl
    have hlo:=HO.out.lo
    have hb1:=HB1.out
    have hs1:=HS1.out
    have hdd:=HDD.out
    refine ⟨rfl,⟨g,r,L2,K2,y2,z2,(hp.off kS HWe.out.b3).stay putObj_self (fun i e=>?_)⟩,(HWe.out.kp.trans' kS (fun i hi e=>?_)).trans' putObj_self (fun i hi e=>?_)⟩
    ·have e':i=D:=e
     subst e'
     exact .inl ⟨_,hX2⟩
    ·have e':i=a+1+1+1:=e
     have:=HA0.out
     omega
    ·have e':i=D:=e
     omega
   have HB2:Hid (Blk (W.setCell ⟨a+1+1+1,0,none⟩ (.bool true)).drew (a+1+1+1) [.bool true] 4):=hB2
   have HX2:Hid ((W.setCell ⟨a+1+1+1,0,none⟩ (.bool true)).drew.heap[D]? = some (.deferred (some []))):=hX2
   clear y1 f1 kS hX2 hB2 hHeld
   go_wp2_with fail
   refine ⟨by simp,.inl ⟨_,_,rfl,run_takeDeferred HX2.out,?_⟩⟩
   refine ⟨_,results_bool rfl rfl (HB2.out.kp putObj_self (by show ¬ a+1+1+1=D;have:=HDD.out;omega)),HE.out⟩
  case hstop=>
   rintro D W hD h hdef
   exact h.elim
end Go.Proofs.YtlppcfeakakpfaaGreatDoor
