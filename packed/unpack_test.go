package packed_test

import (
	"encoding/binary"
	"encoding/hex"
	"fmt"
	"math"
	"strings"
	"testing"

	"quadrille/api"
	"quadrille/grid"
	"quadrille/packed"
)

// P24.2: Unpack; what it reads is asked by packs too.

// small is a file with a cell of each kind, and a node of each.
func small() string {
	s, err := packed.Pack(gridOf("A1", num(1.5), "C1", text("a\x00é"), "A2", truth(true), "B2", fault(3), "A3", num(minus), "B4", num(math.NaN()),
		"C5", form(`IF(A1<=$B$2,SUM(A$1:$C3,-2.5%,#REF!),"x"&NA())`), "IV4096", form("TRUE")))
	if err != api.OK {
		panic(err)
	}
	return s
}

func TestUnpackErrors(t *testing.T) {
	refuses(t, "", api.ErrHead)
	for _, b := range []string{"Q", "QD", "QDR", "qdr1", "QDR2", "QDR", "\x00QDR1", "RDQ1", "QDR\x00", "1RDQ", "QDR 1", "\xffDR1"} {
		refuses(t, b, api.ErrHead)
		refuses(t, b+"\x00\x00\x00\x00\x00\x00\x00\x00", api.ErrHead)
		refuses(t, summed(b+"\x00\x00"), api.ErrHead)
	}
	for n := range 6 {
		refuses(t, "QDR1"+strings.Repeat("\x00", n), api.ErrForm)
		refuses(t, "QDR1"+strings.Repeat("\xff", n), api.ErrForm)
	}
	refuses(t, summed("QDR1"), api.ErrForm)
	refuses(t, summed("QDR1\x00"), api.ErrForm)
	refuses(t, "QDR1\x00\x00\x00\x00\x00\x00", api.ErrSum)
	refuses(t, "QDR1\x00\x00\xff\xff\xff\xff", api.ErrSum)
	refuses(t, "QDR1\xff\xff\x00\x00\x00\x00", api.ErrSum)
	// The sum by another way: its highest byte first, not turned at the end, begun with nought, of all but the head.
	ahead := "QDR1\x00\x00"
	s := summed(ahead)[6:]
	refuses(t, ahead+string([]byte{s[3], s[2], s[1], s[0]}), api.ErrSum)
	refuses(t, ahead+string([]byte{^s[0], ^s[1], ^s[2], ^s[3]}), api.ErrSum)
	refuses(t, ahead+summed("\x00\x00")[2:], api.ErrSum)
	refuses(t, ahead+summed(summed(ahead))[10:], api.ErrSum)
}

func TestUnpackTooLong(t *testing.T) {
	good, err := packed.Pack(texts(api.MaxFile, false))
	if err != api.OK || len(good) != api.MaxFile {
		t.Fatalf("P24.1: %d bytes, error %d", len(good), err)
	}
	// Longer than may be is told ahead of all else.
	refuses(t, strings.Repeat("a", api.MaxFile+1), api.ErrLong)
	refuses(t, strings.Repeat("a", api.MaxFile), api.ErrHead)
	refuses(t, good+"\x00", api.ErrLong)
	refuses(t, good[1:]+"\x00\x00", api.ErrLong)
	refuses(t, good[1:]+"\x00", api.ErrHead)
	refuses(t, good[:api.MaxFile-1]+string([]byte{good[api.MaxFile-1] ^ 1}), api.ErrSum)
	refuses(t, summed(modelAhead(texts(api.MaxFile+1, false))), api.ErrLong)
	refuses(t, summed("QDR1"+strings.Repeat("\x00", api.MaxFile-8)), api.ErrForm)
	refuses(t, summed("QDR1"+strings.Repeat("\xff", api.MaxFile-8)), api.ErrForm)
	refuses(t, summed("QDR1"+strings.Repeat("\x01", api.MaxFile-8)), api.ErrForm)
}

// Cut short at every place, with the sum as it was, and with a right one.
func TestUnpackCut(t *testing.T) {
	s := small()
	for n := range len(s) {
		switch {
		case n < 4:
			refuses(t, s[:n], api.ErrHead)
		case n < 10:
			refuses(t, s[:n], api.ErrForm)
		default:
			refuses(t, s[:n], api.ErrSum)
		}
		if n >= 4 && n < len(s)-4 {
			refuses(t, summed(s[:n]), api.ErrForm)
		}
	}
	ahead := s[:len(s)-4]
	for b := range 256 {
		refuses(t, s+string([]byte{byte(b)}), api.ErrSum)
		refuses(t, summed(ahead+string([]byte{byte(b)})), api.ErrForm)
		refuses(t, summed("QDR1\x00\x00"+string([]byte{byte(b)})), api.ErrForm)
	}
	refuses(t, s+s, api.ErrSum)
	refuses(t, summed(ahead+s), api.ErrForm)
	refuses(t, summed(s), api.ErrForm)
	// Cut at its beginning, or with something ahead.
	for n := 1; n < len(s); n++ {
		refuses(t, s[n:], api.ErrHead)
	}
	refuses(t, " "+s, api.ErrHead)
}

// P24.5: each byte turned to each other one: the sum tells.
func TestUnpackTurned(t *testing.T) {
	s := small()
	for i := range len(s) {
		want := api.ErrSum
		if i < 4 {
			want = api.ErrHead
		}
		for b := range 256 {
			if turned := s[:i] + string([]byte{byte(b)}) + s[i+1:]; turned != s {
				refuses(t, turned, want)
			}
		}
	}
}

// Each byte turned, with the sum right again: what is read then is that file's grid, or there is none.
func TestUnpackTurnedAndSummed(t *testing.T) {
	s := small()
	codes := map[api.Errno]int{}
	for i := 4; i < len(s)-4; i++ {
		for b := range 256 {
			turned := summed(s[:i] + string([]byte{byte(b)}) + s[i+1:len(s)-4])
			codes[modelled(t, turned)]++
		}
	}
	if codes[api.OK] < 1000 || codes[api.ErrForm] < 1000 || len(codes) != 2 {
		t.Errorf("P24.2: too few answers of a kind: %v", codes)
	}
}

func TestUnpackCells(t *testing.T) {
	const yes = "01 03 01"
	for _, digits := range []string{
		"0200 01000100" + yes + "01000100" + yes,                            // one cell twice
		"0200 02000100" + yes + "01000100" + yes,                            // B1 ahead of A1
		"0200 01000200" + yes + "02000100" + yes,                            // A2 ahead of B1
		"0300 01000100" + yes + "02000100" + yes + "01000100" + yes,         // A1 again, behind B1
		"0100 00000100" + yes, "0100 01000000" + yes, "0100 00000000" + yes, // no cells
		"0100 01010100" + yes, "0100 01000110" + yes, "0100 FFFFFFFF" + yes, "0100 00010110" + yes, "0100 01010010" + yes, "0100 FFFF0100" + yes, "0100 0100FFFF" + yes,
		"0000 01000100" + yes, "0200 01000100" + yes, "0001 01000100" + yes, "FFFF", "0100", "0010", "0110", // another count
		"0100 01000100", "0100 01000100 01", "0100 01000100 01 03", "0100 01", "0100 0100", "0100 010001",
		"01",
	} {
		refuses(t, sealed(digits), api.ErrForm)
	}
	packs(t, gridOf("A1", truth(true), "B1", truth(true), "A2", truth(true)), sealed("0300 01000100"+yes+"02000100"+yes+"01000200"+yes))
}

// A cell more than may be.
func TestUnpackTooManyCells(t *testing.T) {
	var cells strings.Builder
	for i := range api.MaxCells + 1 {
		cells.Write(binary.LittleEndian.AppendUint16(nil, uint16(1+i%256)))
		cells.Write(binary.LittleEndian.AppendUint16(nil, uint16(1+i/256)))
		cells.WriteString("\x01\x03\x01")
	}
	all := cells.String()
	if g, err := packed.Unpack(summed("QDR1\x00\x10" + all[:7*api.MaxCells])); err != api.OK || g.Len() != api.MaxCells {
		t.Errorf("P24.2: a full grid: error %d", err)
	}
	refuses(t, summed("QDR1\x01\x10"+all), api.ErrForm)
	refuses(t, summed("QDR1\x00\x10"+all), api.ErrForm)
	refuses(t, summed("QDR1\x01\x10"+all[:7*api.MaxCells]), api.ErrForm)
	refuses(t, summed("QDR1\xff\x0f"+all[:7*api.MaxCells]), api.ErrForm)
}

func TestUnpackValues(t *testing.T) {
	refusesCell(t, "")
	for kind := range 256 {
		if kind != api.Plain && kind != api.Formula {
			refusesCell(t, fmt.Sprintf("%02x", kind))
			refusesCell(t, fmt.Sprintf("%02x 03 01", kind))
		}
		if kind < 1 || kind > 4 {
			refusesCell(t, fmt.Sprintf("01 %02x", kind))
			refusesCell(t, fmt.Sprintf("01 %02x 01", kind))
		}
		if kind > 1 {
			refusesCell(t, fmt.Sprintf("01 03 %02x", kind))
			refusesCell(t, fmt.Sprintf("02 03 %02x", kind))
		}
		if kind < 1 || kind > 5 {
			refusesCell(t, fmt.Sprintf("01 04 %02x", kind))
			refusesCell(t, fmt.Sprintf("02 04 %02x", kind))
		}
	}
	for _, s := range []string{"\xff", "\xc3", "a\x80", "\xed\xa0\x80", "\xf5\x80\x80\x80", "\xc0\x80", "\xf4\x90\x80\x80", strings.Repeat("x", 1025), strings.Repeat("x", 65535), strings.Repeat("é", 512) + "x"} {
		digits := hex.EncodeToString(binary.LittleEndian.AppendUint16(nil, uint16(len(s)))) + hex.EncodeToString([]byte(s))
		refusesCell(t, "01 02"+digits)
		refusesCell(t, "02 02"+digits)
	}
	for _, digits := range []string{"02", "02 00", "02 0100", "02 0200 61", "02 0100 6161", "02 0001 61", "02 FFFF 61", "01", "01 00000000000000", "01 000000000000000000", "03", "03 00 00", "04", "04 01 01"} {
		refusesCell(t, "01"+digits)
		refusesCell(t, "02"+digits)
	}
	for _, x := range nans() {
		digits := hex.EncodeToString(binary.LittleEndian.AppendUint64(nil, math.Float64bits(x)))
		if math.Float64bits(x) != theNaN {
			refusesCell(t, "01 01"+digits)
		}
		refusesCell(t, "02 01"+digits)
	}
	for _, x := range []float64{minus, -1, math.Inf(1), math.Inf(-1), -5e-324} {
		refusesCell(t, "02 01"+hex.EncodeToString(binary.LittleEndian.AppendUint64(nil, math.Float64bits(x))))
	}
}

func TestUnpackNodes(t *testing.T) {
	refusesCell(t, "02")
	for kind := range 256 {
		if kind < 1 || kind > 9 {
			refusesCell(t, fmt.Sprintf("02 %02x", kind))
			refusesCell(t, fmt.Sprintf("02 %02x 01", kind))
			refusesCell(t, fmt.Sprintf("02 07 01 %02x", kind))
			refusesCell(t, fmt.Sprintf("02 %02x 01 03 01", kind))
		}
		if kind > 3 {
			refusesCell(t, fmt.Sprintf("02 05 01000100 %02x", kind))
			refusesCell(t, fmt.Sprintf("02 09 0300 53554D 01 06 01000100 00 01000100 %02x", kind))
			refusesCell(t, fmt.Sprintf("02 09 0300 53554D 01 06 01000100 %02x 01000100 00", kind))
		}
		if kind < 1 || kind > 3 {
			refusesCell(t, fmt.Sprintf("02 07 %02x 03 01", kind))
		}
		if kind < 4 || kind > 15 {
			refusesCell(t, fmt.Sprintf("02 08 %02x 03 01 03 01", kind))
		}
		if kind != 1 {
			refusesCell(t, fmt.Sprintf("02 09 0300 53554D %02x 03 01", kind))
		}
		if kind != 2 && kind != 3 {
			refusesCell(t, fmt.Sprintf("02 09 0200 4946 %02x", kind)+strings.Repeat("03 01", kind))
		}
	}
	for _, digits := range []string{
		"05 00000100 00", "05 01000000 00", "05 01010100 00", "05 01000110 00", "05 FFFFFFFF 00", // no cells
		"05 01000100", "05 010001", "05",
		"06 01000100 00 01000100 00", "07 01 06 01000100 00 01000100 00", // an area that is no part of a call
		"09 0300 53554D 01 06 02000100 00 01000100 00", "09 0300 53554D 01 06 01000200 00 01000100 00", "09 0300 53554D 01 06 01000100 00 01000110 00", "09 0300 53554D 01 06 00000100 00 01000100 00", "09 0300 53554D 01 06 01000100 00",
		"07 01", "07", "08 04 03 01", "08 04", "07 01 03 01 03 01", "08 04 03 01 03 01 03 01",
		"09 0300 73756D 01 03 01", "09 0300 464F4F 01 03 01", "09 0000 01 03 01", "09 0400 53554D00 01 03 01", "09 0200 5355 01 03 01", // names of no function
		"09 0300 53554D 00", "09 0200 4E41 01 03 01", "09 0300 53554D", "09 0300 5355", "09 0300 53554D 02 03 01", "09 FFFF 53554D 01 03 01", "09",
	} {
		refusesCell(t, "02"+digits)
	}
}

// Nodes nested deeper, and more of them, than may be.
func TestUnpackDeep(t *testing.T) {
	for _, deep := range []int{32, 33, 64, 255, 256, 257, 5000, 2000000} {
		refuses(t, summed("QDR1\x01\x00\x01\x00\x01\x00\x02"+strings.Repeat("\x07\x01", deep)+"\x03\x01"), api.ErrForm)
		refuses(t, summed("QDR1\x01\x00\x01\x00\x01\x00\x02"+strings.Repeat("\x07\x01", deep)), api.ErrForm)
	}
	refuses(t, summed("QDR1\x01\x00\x01\x00\x01\x00\x02"+strings.Repeat("\x09\x03\x00SUM\x01", 500000)+"\x03\x01"), api.ErrForm)
	packsCell(t, made(signed(tree("TRUE"), 31)), "02"+strings.Repeat("07 02", 31)+"03 01")
	// Beside a deep part another one that is too deep: how many stand side by side doesn't count.
	deep := strings.Repeat("07 02", 30) + "03 01"
	packsCell(t, made(sumOf(signed(tree("TRUE"), 30), 8)), "02 09 0300 53554D 08"+strings.Repeat(deep, 8))
	refusesCell(t, "02 09 0300 53554D 02"+deep+"07 02"+deep)
}

func TestUnpackManyNodes(t *testing.T) {
	call := func(count int) string {
		return fmt.Sprintf("09 0300 53554D %02x", count) + strings.Repeat("03 01", count)
	}
	packsCell(t, made(sumOf(tree("TRUE"), 255)), "02"+call(255))
	refusesCell(t, "02 07 02"+call(255))
	packsCell(t, made(signed(sumOf(tree("TRUE"), 254), 1)), "02 07 02"+call(254))
	refusesCell(t, "02 08 04"+call(254)+"03 01")
	packsCell(t, made(api.Node{Kind: api.NodeBinary, Op: api.OpAdd, Args: []api.Node{sumOf(tree("TRUE"), 253), tree("TRUE")}}), "02 08 04"+call(253)+"03 01")
	refusesCell(t, "02 09 0300 53554D FF"+strings.Repeat(call(255), 255))
	// Each formula is counted for itself.
	packs(t, gridOf("A1", made(sumOf(tree("TRUE"), 255)), "B1", made(sumOf(tree("TRUE"), 255)), "C1", form("TRUE")), sealed("0300 01000100 02"+call(255)+"02000100 02"+call(255)+"03000100 02 03 01"))
}

// What follows a mishap's place counts for nothing, and a mishap behind good cells refuses all.
func TestUnpackAllOrNothing(t *testing.T) {
	s := small()
	ahead := []byte(s[:len(s)-4])
	ahead[4]++
	refuses(t, summed(string(ahead)+bytesOf("00010010 01 03 01")), api.ErrForm)
	refuses(t, summed(string(ahead)+bytesOf("00010110 01 03 01")), api.ErrForm)
	if g, err := packed.Unpack(s); err != api.OK || g.Len() != 8 || !g.Equal(g.Clone()) || g.Equal(grid.New()) {
		t.Errorf("P24.2: error %d", err)
	}
}
