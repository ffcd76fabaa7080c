package journal

import (
	"encoding/binary"
	"fmt"
	"hash/crc32"
	"math"
	"slices"
	"testing"

	"midstream/api"
	"midstream/flash"
)

// noise is a fixed sequence of words, other ones for other seeds.
func noise(size int, seed uint32) []uint32 {
	out := make([]uint32, size)
	x := 2463534242 + seed
	for i := range out {
		x ^= x << 13
		x ^= x >> 17
		x ^= x << 5
		out[i] = x
	}
	return out
}

// ones are as many erased words.
func ones(size int) []uint32 {
	return slices.Repeat([]uint32{0xffffffff}, size)
}

// spoil writes over words, their spare capacity included.
func spoil(w []uint32) {
	w = w[:cap(w)]
	for i := range w {
		w[i] ^= 0xa5a5a5a5
	}
}

// sumOf is the checksum of words, by Go's library.
func sumOf(w []uint32) uint32 {
	b := []byte{}
	for _, n := range w {
		b = binary.LittleEndian.AppendUint32(b, n)
	}
	return crc32.ChecksumIEEE(b)
}

// laid is a record as the chapter says that it is stored.
func laid(number uint32, rec []uint32) []uint32 {
	out := append([]uint32{number, uint32(len(rec))}, rec...)
	return append(out, sumOf(out), 0)
}

// sized is a stored record of some words that its number decides.
func sized(number uint32, size int) []uint32 {
	return laid(number, noise(size, number))
}

// sectors are whole sectors: each begins with its words, and the rest is erased.
func sectors(contents ...[]uint32) []uint32 {
	out := ones(256 * len(contents))
	for i, c := range contents {
		copy(out[256*i:256*i+256], c)
	}
	return out
}

// join is pieces one after the other.
func join(pieces ...[]uint32) []uint32 {
	return slices.Concat(pieces...)
}

// told is what Last tells.
type told struct {
	rec    []uint32
	number uint32
	ok     bool
}

func last(j *Journal) told {
	rec, number, ok := j.Last()
	return told{rec, number, ok}
}

func (a told) is(b told) bool {
	return slices.Equal(a.rec, b.rec) && a.number == b.number && a.ok == b.ok
}

// sector is what the model reads from the words of a sector.
type sector struct {
	told
	used  int
	clean bool
}

// read goes over a sector as the section 'Words' says, with the library's checksum.
func read(w []uint32) sector {
	s := sector{}
	for {
		rest := w[s.used:]
		if len(rest) < 5 || rest[0] == 0 || rest[0] > math.MaxInt32 || rest[1] == 0 || rest[1] > 64 {
			break
		}
		size := int(rest[1])
		if size+4 > len(rest) || !slices.Equal(rest[:size+4], laid(rest[0], rest[2:2+size])) || s.ok && rest[0] != s.number+1 {
			break
		}
		s.told = told{rest[2 : 2+size], rest[0], true}
		s.used += size + 4
	}
	s.clean = slices.Equal(w[s.used:], ones(256-s.used))
	return s
}

// model is a journal's flash and the first of its two sectors.
type model struct {
	words []uint32
	first int
}

// current is the current sector and its number.
func (m model) current() (sector, int) {
	a, b := read(m.words[256*m.first:][:256]), read(m.words[256*m.first+256:][:256])
	if b.number > a.number {
		return b, m.first + 1
	}
	return a, m.first
}

// step is an operation on a flash: Erase of the sector at, or Program of word.
type step struct {
	erase bool
	at    int
	word  uint32
}

// steps are the operations of an Append that is not refused.
func (m model) steps(rec []uint32) []step {
	out := []step{}
	s, number := m.current()
	from := 256*number + s.used
	if !s.clean || s.used+len(rec)+4 > 256 {
		number = 2*m.first + 1 - number
		from = 256 * number
		out = append(out, step{true, number, 0})
	}
	for i, w := range laid(s.number+1, rec) {
		out = append(out, step{false, from + i, w})
	}
	return out
}

// do performs operations on words, completely.
func do(words []uint32, steps []step) []uint32 {
	out := slices.Clone(words)
	for _, s := range steps {
		if s.erase {
			copy(out[256*s.at:], ones(256))
			continue
		}
		out[s.at] &= s.word
	}
	return out
}

// open is a journal, which there must be.
func open(t *testing.T, f *flash.Flash, sector int) *Journal {
	t.Helper()
	j, e := Open(f, sector)
	if j == nil || e != api.OK {
		t.Fatalf("Open(f, %d) = %v, %d", sector, j, e)
	}
	return j
}

// shows expects that a journal, and another one that is opened now, tell a last record.
func shows(t *testing.T, what string, f *flash.Flash, sector int, j *Journal, want told) {
	t.Helper()
	if got := last(j); !got.is(want) {
		t.Errorf("%s: Last = %v, want %v", what, got, want)
	}
	if got := last(open(t, f, sector)); !got.is(want) {
		t.Errorf("%s: Last of a new journal = %v, want %v", what, got, want)
	}
}

// appends expects that an Append is complete: its operations, the words of the flash, and the last record.
func appends(t *testing.T, what string, f *flash.Flash, sector int, j *Journal, rec []uint32) {
	t.Helper()
	m := model{f.Words(), sector}
	steps, ops := m.steps(rec), f.Ops()
	before, _ := m.current()
	if e := j.Append(rec); e != api.OK {
		t.Fatalf("%s: Append of %d words = %d", what, len(rec), e)
	}
	if !slices.Equal(f.Words(), do(m.words, steps)) {
		t.Fatalf("%s: Append of %d words left other words in the flash", what, len(rec))
	}
	if f.Ops()-ops != len(steps) {
		t.Errorf("%s: Append of %d words took %d operations, want %d", what, len(rec), f.Ops()-ops, len(steps))
	}
	shows(t, what, f, sector, j, told{rec, before.number + 1, true})
}

// off switches the power of a flash off, without a change of its words.
func off(t *testing.T, f *flash.Flash) {
	t.Helper()
	f.Cut(0, 0)
	if e := f.Program(0, 0); e != api.ErrOff || f.On() {
		t.Fatal("the power is on")
	}
}

// masks for interrupted operations: none, all and some bits, and the numbers of words that an Erase is cut at.
func masks() []uint32 {
	return []uint32{0, 1, 0xff, 256, 257, 0x80000000, 0x0f0f0f0f, 0x7ffffffe, 0xfffffffe, 0xffffffff, 0x12345678, 5, 64}
}

// P7.1: Open returns the first error that applies, and no journal; nothing is written.
func TestOpenErrors(t *testing.T) {
	far := []int{-1, -2, -256, -1 << 31, -1 << 32, -1 << 56, math.MinInt, math.MinInt + 1, 16, 17, 255, 256, 1 << 31, 1 << 32, 1 << 56, 1<<56 - 1, 1<<56 + 1, 1 << 60, math.MaxInt - 1, math.MaxInt}
	for _, n := range append(far, 0, 1) {
		for _, f := range []*flash.Flash{nil, {}, new(flash.Flash)} {
			if j, e := Open(f, n); j != nil || e != api.ErrNil {
				t.Errorf("Open(nil, %d) = %v, %d", n, j, e)
			}
		}
	}
	for _, size := range []int{1, 2, 3, 16} {
		words := noise(256*size, 1)
		f := flash.Of(words)
		for _, n := range append(far, size-1, size, size+1) {
			if j, e := Open(f, n); j != nil || e != api.ErrRange {
				t.Errorf("Open(%d sectors, %d) = %v, %d", size, n, j, e)
			}
		}
		for n := range size - 1 {
			if j, e := Open(f, n); j == nil || e != api.OK {
				t.Errorf("Open(%d sectors, %d) = %v, %d", size, n, j, e)
			}
		}
		if f.Ops() != 0 || !slices.Equal(f.Words(), words) {
			t.Error("Open wrote something")
		}
		off(t, f)
		for _, n := range append(far, 0, 1, size-1, size) {
			if j, e := Open(f, n); j != nil || e != api.ErrOff {
				t.Errorf("Open(%d sectors that are off, %d) = %v, %d", size, n, j, e)
			}
		}
		if f.Ops() != 0 || f.On() || !slices.Equal(f.Words(), words) {
			t.Error("Open of a flash that is off wrote something")
		}
	}
}

// P7.1: a planned power failure does not keep Open from reading, and Open does not use it up.
func TestOpenDoesNotOperate(t *testing.T) {
	f := flash.Of(sectors(sized(7, 3), sized(9, 60)))
	f.Cut(0, 0)
	j := open(t, f, 0)
	if !last(j).is(told{noise(60, 9), 9, true}) || !f.On() || f.Ops() != 0 {
		t.Error("Open with a planned failure")
	}
	if e := j.Append([]uint32{1}); e != api.ErrOff {
		t.Errorf("Append with a planned failure = %d", e)
	}
}

// P7.1: which record is the last one, and P7.2: where the next one is stored, in sectors of every kind.
func TestOpen(t *testing.T) {
	none := told{}
	full := join(sized(1, 60), sized(2, 60), sized(3, 60), sized(4, 60))
	small := []uint32{}
	for n := range uint32(51) {
		small = append(small, sized(n+8, 1)...)
	}
	dirty := sectors(join(sized(4, 2), sized(5, 3)))[:256]
	dirty[255] = 0xfffffffe
	for _, c := range []struct {
		name string
		a, b []uint32
		want told
		at   int // the word at which a record of one word is stored then
	}{
		{"no records", nil, nil, none, 0},
		{"no records, the first not clean", []uint32{0}, nil, none, 256},
		{"no records, the second not clean", nil, []uint32{0}, none, 0},
		{"no records, none clean", []uint32{7}, []uint32{0}, none, 256},
		{"no records, the first's last word written", append(ones(255), 0), nil, none, 256},
		{"no records, the first's last word written a little", append(ones(255), 0x7fffffff), nil, none, 256},
		{"one in the first", sized(1, 2), nil, told{noise(2, 1), 1, true}, 6},
		{"one in the second", nil, sized(1, 2), told{noise(2, 1), 1, true}, 256 + 6},
		{"the first's is greater", sized(8, 5), sized(7, 2), told{noise(5, 8), 8, true}, 9},
		{"the second's is greater", sized(8, 5), sized(9, 2), told{noise(2, 9), 9, true}, 256 + 6},
		{"equal numbers", sized(9, 5), sized(9, 2), told{noise(5, 9), 9, true}, 9},
		{"equal numbers at the end of more", sized(9, 5), join(sized(8, 1), sized(9, 2)), told{noise(5, 9), 9, true}, 9},
		{"more records in the one with smaller numbers", join(sized(1, 1), sized(2, 1), sized(3, 1)), sized(4, 7), told{noise(7, 4), 4, true}, 256 + 11},
		{"the first's first number is the greater one", sized(5, 1), join(sized(4, 1), sized(5, 1), sized(6, 2)), told{noise(2, 6), 6, true}, 256 + 5 + 5 + 6},
		{"a full first sector", full, nil, told{noise(60, 4), 4, true}, 256},
		{"a full second sector", nil, full, told{noise(60, 4), 4, true}, 0},
		{"one word left", small, nil, told{noise(1, 58), 58, true}, 256},
		{"a record that begins anywhere", sized(123456789, 64), nil, told{noise(64, 123456789), 123456789, true}, 68},
		{"the number does not follow", join(sized(4, 2), sized(6, 3)), nil, told{noise(2, 4), 4, true}, 256},
		{"the number is the same", join(sized(4, 2), sized(4, 3)), nil, told{noise(2, 4), 4, true}, 256},
		{"the number goes down", join(sized(4, 2), sized(3, 3)), nil, told{noise(2, 4), 4, true}, 256},
		{"the number after a break follows again", join(sized(4, 2), sized(9, 1), sized(5, 3)), nil, told{noise(2, 4), 4, true}, 256},
		{"a greater number after a break does not count", join(sized(4, 2), sized(100, 3)), sized(5, 1), told{noise(1, 5), 5, true}, 256 + 5},
		{"a gap of one erased word", join(sized(4, 2), ones(1), sized(5, 3)), nil, told{noise(2, 4), 4, true}, 256},
		{"a record that does not begin at the first word", join(ones(1), sized(5, 3)), nil, none, 256},
		{"a word that is not erased far behind", dirty, nil, told{noise(3, 5), 5, true}, 256},
		{"the same in the second", nil, dirty, told{noise(3, 5), 5, true}, 0},
		{"a record over the end of the sector", join(full[:192], sized(4, 61))[:256], nil, told{noise(60, 3), 3, true}, 256},
		{"the number 0", sized(0, 1), nil, none, 256},
		{"the number 0, then 1", join(sized(0, 1), sized(1, 1)), nil, none, 256},
		{"the number 2^31 - 2", sized(math.MaxInt32-1, 3), nil, told{noise(3, math.MaxInt32-1), math.MaxInt32 - 1, true}, 7},
		{"the number 2^31", sized(1<<31, 1), nil, none, 256},
		{"the number 2^31 + 1", sized(1<<31+1, 1), sized(1, 1), told{noise(1, 1), 1, true}, 256 + 5},
		{"the number 2^32 - 1", sized(math.MaxUint32, 1), nil, none, 256},
		{"the length 0", sized(1, 0), nil, none, 256},
		{"the length 0 behind a record", join(sized(1, 1), sized(2, 0), sized(2, 1)), nil, told{noise(1, 1), 1, true}, 256},
		{"the length 64", sized(3, 64), nil, told{noise(64, 3), 3, true}, 68},
		{"the length 65", sized(3, 65), nil, none, 256},
		{"the length 252", sized(3, 252), nil, none, 256},
		{"all words 0", make([]uint32, 256), make([]uint32, 256), none, 256},
	} {
		words := sectors(c.a, c.b)
		f := flash.Of(words)
		j := open(t, f, 0)
		shows(t, c.name, f, 0, j, c.want)
		if f.Ops() != 0 || !slices.Equal(f.Words(), words) {
			t.Errorf("%s: Open or Last wrote something", c.name)
		}
		appends(t, c.name, f, 0, j, []uint32{77})
		if got := f.Words()[c.at:][:5]; !slices.Equal(got, laid(c.want.number+1, []uint32{77})) {
			t.Errorf("%s: at %d there is %x", c.name, c.at, got)
		}
		if c.want.number+1 < math.MaxInt32 {
			appends(t, c.name, f, 0, open(t, f, 0), noise(64, 2))
		}
	}
}

// P7.1: a stored record is valid only as it is: each bit of each word counts, alone and behind another record.
func TestDamagedRecords(t *testing.T) {
	for _, before := range [][]uint32{nil, sized(5, 4)} {
		want := told{}
		if before != nil {
			want = told{noise(4, 5), 5, true}
		}
		for _, size := range []int{1, 2, 5, 64} {
			record := sized(6, size)
			if got := last(open(t, flash.Of(sectors(join(before, record), nil)), 0)); !got.is(told{noise(size, 6), 6, true}) {
				t.Fatalf("a record of %d words: %v", size, got)
			}
			for at := range record {
				for bit := range 32 {
					record[at] ^= 1 << bit
					f := flash.Of(sectors(join(before, record), nil))
					if got := last(open(t, f, 0)); !got.is(want) {
						t.Fatalf("a record of %d words with the bit %d of the word %d changed: %v", size, bit, at, got)
					}
					record[at] ^= 1 << bit
				}
			}
		}
	}
}

// P7.1: a record that does not end within its sector is none, even if all its words are in the flash; the second sector ends where it ends.
func TestRecordBeyondTheSector(t *testing.T) {
	for _, size := range []int{61, 62, 63, 64} {
		words := sectors(nil, nil, nil, nil)
		long := join(sized(1, 60), sized(2, 60), sized(3, 60), sized(4, size))
		copy(words, long)
		if got := last(open(t, flash.Of(words), 0)); got.number != 3 {
			t.Errorf("a record of %d words over the end of the first sector: %v", size, got)
		}
		words = sectors(nil, nil, nil, nil)
		copy(words[256:], long)
		if got := last(open(t, flash.Of(words), 0)); got.number != 3 {
			t.Errorf("a record of %d words over the end of the second sector: %v", size, got)
		}
		words = sectors(nil, nil)
		copy(words[256:], long[:256])
		if got := last(open(t, flash.Of(words), 0)); got.number != 3 {
			t.Errorf("a record of %d words over the end of the flash: %v", size, got)
		}
	}
	for left := 1; left <= 4; left++ {
		end := join(sized(1, 60), sized(2, 60), sized(3, 60), sized(4, 60-left), sized(5, 60)[:left])
		for _, words := range [][]uint32{sectors(end, nil), sectors(nil, end)} {
			if got := last(open(t, flash.Of(words), 0)); got.number != 4 {
				t.Errorf("%d words at the end of a sector: %v", left, got)
			}
		}
	}
}

// P7.2: the record is stored word by word as the section 'Words' says, for every length.
func TestAppend(t *testing.T) {
	for size := 1; size <= 64; size++ {
		f := flash.New(2)
		j := open(t, f, 0)
		rec := noise(size, uint32(size))
		appends(t, "the first record", f, 0, j, rec)
		want := sectors(laid(1, rec), nil)
		if !slices.Equal(f.Words(), want) {
			t.Errorf("a record of %d words is stored as %x", size, f.Words()[:size+5])
		}
		appends(t, "the second record", f, 0, j, rec)
		copy(want[size+4:], laid(2, rec))
		if !slices.Equal(f.Words(), want) {
			t.Errorf("a second record of %d words is stored as %x", size, f.Words()[size+4:][:size+5])
		}
	}
}

// P7.2: words of all zeros and of all ones are stored like others; each of them is programmed.
func TestAppendPlainWords(t *testing.T) {
	for _, rec := range [][]uint32{{0}, {0xffffffff}, make([]uint32, 64), ones(64), {0, 0xffffffff, 1, 0x80000000}, laid(2, []uint32{3})} {
		f := flash.New(2)
		j := open(t, f, 0)
		for range 10 {
			appends(t, fmt.Sprintf("the words %x", rec), f, 0, j, rec)
		}
	}
}

// P7.2: a record of no words, or of more than 64, is refused, and nothing is changed by it.
func TestAppendBig(t *testing.T) {
	for _, content := range [][]uint32{sectors(nil, nil), sectors(sized(6, 3), nil), sectors([]uint32{0}, sized(6, 3)), noise(512, 3)} {
		f := flash.Of(content)
		j := open(t, f, 0)
		before := last(j)
		f.Cut(0, 0)
		for _, rec := range [][]uint32{nil, {}, make([]uint32, 0, 9), make([]uint32, 65), ones(66), make([]uint32, 252), make([]uint32, 256), make([]uint32, 1000)} {
			if e := j.Append(rec); e != api.ErrBig {
				t.Errorf("Append of %d words = %d", len(rec), e)
			}
		}
		if !slices.Equal(f.Words(), content) || f.Ops() != 0 || !f.On() {
			t.Error("an Append that was refused wrote something")
		}
		shows(t, "after ErrBig", f, 0, j, before)
		f.Cut(1000, 0)
		appends(t, "after ErrBig", f, 0, j, noise(64, 4))
	}
}

// P7.2: behind the number 2^31 - 1 there is none, in either sector; the one before has one more.
func TestAppendAtTheLastNumber(t *testing.T) {
	for _, content := range [][]uint32{
		sectors(sized(math.MaxInt32, 3), nil),
		sectors(sized(1, 3), sized(math.MaxInt32, 3)),
		sectors(join(sized(math.MaxInt32-1, 1), sized(math.MaxInt32, 3)), make([]uint32, 256)),
	} {
		f := flash.Of(content)
		j := open(t, f, 0)
		want := told{noise(3, math.MaxInt32), math.MaxInt32, true}
		for range 3 {
			for _, size := range []int{0, 1, 2, 64, 65} {
				if e := j.Append(noise(size, 5)); e != api.ErrBig {
					t.Errorf("Append of %d words behind 2^31 - 1 = %d", size, e)
				}
			}
		}
		if !slices.Equal(f.Words(), content) || f.Ops() != 0 {
			t.Error("an Append behind 2^31 - 1 wrote something")
		}
		shows(t, "behind 2^31 - 1", f, 0, j, want)
		off(t, f)
		if e := j.Append([]uint32{1}); e != api.ErrOff {
			t.Errorf("Append behind 2^31 - 1 while the power is off = %d", e)
		}
	}
	for _, content := range [][]uint32{sectors(sized(math.MaxInt32-1, 3), nil), sectors(join(sized(math.MaxInt32-1, 3), []uint32{0}), nil)} {
		f := flash.Of(content)
		j := open(t, f, 0)
		appends(t, "at 2^31 - 1", f, 0, j, []uint32{6, 7})
		if got := last(j); got.number != math.MaxInt32 {
			t.Errorf("at 2^31 - 1: %v", got)
		}
		if e := j.Append([]uint32{8}); e != api.ErrBig {
			t.Errorf("Append behind the one that came to 2^31 - 1 = %d", e)
		}
		shows(t, "at 2^31 - 1", f, 0, j, told{[]uint32{6, 7}, math.MaxInt32, true})
	}
}

// P7.2: while the power is off, Append returns ErrOff, also for what is too big, and does so ever after.
func TestAppendOff(t *testing.T) {
	for _, first := range [][]uint32{{4}, nil, make([]uint32, 65)} {
		content := sectors(sized(6, 3), nil)
		f := flash.Of(content)
		j := open(t, f, 0)
		want := told{noise(3, 6), 6, true}
		off(t, f)
		if e := j.Append(first); e != api.ErrOff {
			t.Errorf("Append of %d words while the power is off = %d", len(first), e)
		}
		if got := last(j); !got.is(want) {
			t.Errorf("Last while the power is off = %v", got)
		}
		f.Start()
		for range 3 {
			for _, rec := range [][]uint32{{4}, nil, make([]uint32, 64), make([]uint32, 65)} {
				if e := j.Append(rec); e != api.ErrOff {
					t.Errorf("Append of %d words after ErrOff and Start = %d", len(rec), e)
				}
			}
		}
		if !slices.Equal(f.Words(), content) || f.Ops() != 0 {
			t.Error("an Append behind ErrOff wrote something")
		}
		shows(t, "after ErrOff", f, 0, j, want)
		appends(t, "a new journal after ErrOff", f, 0, open(t, f, 0), []uint32{4})
		if got := last(j); !got.is(want) {
			t.Errorf("Last of the elder journal = %v", got)
		}
	}
}

// P7.2: only a call of this journal that returned ErrOff ends it: the power may have been off between two calls, and an Open that failed is no call of it.
func TestOffBetweenCalls(t *testing.T) {
	f := flash.New(3)
	j := open(t, f, 1)
	appends(t, "before", f, 1, j, []uint32{1})
	off(t, f)
	if k, e := Open(f, 1); k != nil || e != api.ErrOff {
		t.Errorf("Open while the power is off = %v, %d", k, e)
	}
	if got := last(j); !got.is(told{[]uint32{1}, 1, true}) {
		t.Errorf("Last while the power is off = %v", got)
	}
	f.Start()
	appends(t, "after Start", f, 1, j, []uint32{2, 3})
	if e := j.Append(nil); e != api.ErrBig {
		t.Errorf("Append of nothing = %d", e)
	}
	appends(t, "after ErrBig", f, 1, j, []uint32{4})
}

// P7.2 and P7.4: a record that just fits is stored behind the others, and one that is a word longer in the other sector.
func TestRoom(t *testing.T) {
	for size := 1; size <= 64; size++ {
		before := join(sized(1, 60), sized(2, 60), sized(3, 50))
		for len(before)+5+size+4 <= 256 {
			number := uint32(3 + (len(before)-182)/5)
			before = append(before, sized(number+1, 1)...)
		}
		// The last one takes just as many words as leave room for a record of this size.
		count := read(sectors(before)).number
		gap := 256 - len(before) - (size + 4)
		if gap < 0 || gap > 4 {
			t.Fatalf("room for %d words: a gap of %d", size, gap)
		}
		before = join(sized(1, 60), sized(2, 60), sized(3, 50+gap), before[182:])
		for _, turned := range []bool{false, true} {
			a, b, from := before, []uint32(nil), 0
			if turned {
				a, b, from = nil, before, 256
			}
			words := sectors(a, b)
			f := flash.Of(words)
			j := open(t, f, 0)
			if got := last(j); got.number != count {
				t.Fatalf("room for %d words: %v", size, got)
			}
			g := f.Copy()
			appends(t, "a record that just fits", f, 0, j, noise(size, 9))
			if got := f.Words(); got[from+255] != 0 || !slices.Equal(got[256-from:512-from], ones(256)) || f.Ops() != size+4 {
				t.Errorf("a record of %d words that just fits is stored elsewhere", size)
			}
			if size == 64 {
				continue
			}
			j = open(t, g, 0)
			appends(t, "a record that does not fit", g, 0, j, noise(size+1, 9))
			if got := g.Words(); !slices.Equal(got[from:from+256], words[from:from+256]) || got[256-from] != count+1 || g.Ops() != size+6 {
				t.Errorf("a record of %d words that does not fit is not stored in the other sector", size+1)
			}
		}
	}
}

// P7.2 and P7.4: the sectors take turns; the one with the last record is never erased, and an Append has one Erase at most.
func TestTurns(t *testing.T) {
	for _, size := range []int{1, 2, 12, 28, 60, 61, 64} {
		f := flash.New(2)
		j := open(t, f, 0)
		each := 256 / (size + 4)
		for n := range 5 * each {
			before := f.Words()
			appends(t, "turns", f, 0, j, noise(size, uint32(n)))
			turn, at := n/each%2, n%each*(size+4)
			if got := f.Words()[256*turn+at]; got != uint32(n+1) {
				t.Fatalf("the record %d of %d words: at %d of the sector %d there is %d", n+1, size, at, turn, got)
			}
			if n > 0 && at == 0 && !slices.Equal(f.Words()[256-256*turn:][:256], before[256-256*turn:][:256]) {
				t.Errorf("the record %d of %d words changed the sector of the last record", n+1, size)
			}
		}
	}
}

// P7.2: the words of the other sector are not looked at while the current one has room.
func TestOtherSectorStays(t *testing.T) {
	for _, other := range [][]uint32{noise(256, 6), make([]uint32, 256), sized(3, 64)} {
		f := flash.Of(sectors(sized(40, 2), other))
		j := open(t, f, 0)
		for n := range uint32(3) {
			appends(t, "in the first", f, 0, j, noise(60, n))
		}
		if !slices.Equal(f.Words()[256:], sectors(other)) {
			t.Error("the other sector was changed")
		}
		appends(t, "in the second", f, 0, j, noise(60, 7))
		if got := f.Words()[256:]; !slices.Equal(got, sectors(laid(44, noise(60, 7)))) {
			t.Error("the other sector was not erased")
		}
	}
}

// stage is where an Append stands: what the flash holds, and what is stored.
type stage struct {
	name  string
	words []uint32
	rec   []uint32
}

// stages are Appends behind others, into the other sector, of the first record, with clean sectors and with others.
func stages() []stage {
	return []stage{
		{"the first record", sectors(nil, nil), []uint32{5, 6}},
		{"the first record, the second sector not clean", sectors(nil, noise(256, 1)), []uint32{5, 6}},
		{"the first record, no sector clean", sectors(noise(256, 2), noise(256, 1)), []uint32{5, 6}},
		{"behind others", sectors(join(sized(3, 2), sized(4, 5)), sized(2, 64)), []uint32{0, 0, 7}},
		{"behind others in the second", sectors(sized(2, 64), join(sized(3, 2), sized(4, 5))), []uint32{8}},
		{"up to the end", sectors(join(sized(1, 60), sized(2, 60), sized(3, 60)), nil), noise(60, 3)},
		{"no room", sectors(join(sized(4, 60), sized(5, 60), sized(6, 60)), join(sized(1, 64), sized(2, 64), sized(3, 64))), noise(61, 3)},
		{"no room in the second", sectors(join(sized(1, 64), sized(2, 64), sized(3, 64)), join(sized(4, 60), sized(5, 60), sized(6, 60))), noise(61, 3)},
		{"not clean", sectors(join(sized(7, 2), []uint32{1}), sized(6, 5)), []uint32{0xffffffff, 0, 9}},
		{"not clean in the second", sectors(sized(6, 5), join(sized(7, 2), []uint32{0x7fffffff})), []uint32{9}},
		{"equal numbers, no room", sectors(join(sized(4, 64), sized(5, 64), sized(6, 64)), join(sized(4, 3), sized(5, 2), sized(6, 1))), noise(64, 4)},
		{"up to the last number", sectors(sized(math.MaxInt32-1, 3), sized(math.MaxInt32-2, 60)), []uint32{1, 2}},
	}
}

// P7.2 and P7.3: a failure at each operation with every mask: ErrOff, for good; Last tells what it told; a new journal has the record of before or the new one, and goes on.
func TestPowerFailures(t *testing.T) {
	for _, c := range stages() {
		m := model{c.words, 0}
		steps := m.steps(c.rec)
		s, _ := m.current()
		before, after := s.told, told{c.rec, s.number + 1, true}
		for n := range steps {
			for _, mask := range masks() {
				what := fmt.Sprintf("%s: a failure after %d operations with the mask %#x", c.name, n, mask)
				f := flash.Of(c.words)
				j := open(t, f, 0)
				f.Cut(n, mask)
				if e := j.Append(c.rec); e != api.ErrOff || f.Ops() != n || f.On() {
					t.Fatalf("%s: Append = %d, Ops %d", what, e, f.Ops())
				}
				if got := last(j); !got.is(before) {
					t.Errorf("%s: Last = %v", what, got)
				}
				f.Start()
				left := f.Words()
				if e := j.Append(c.rec); e != api.ErrOff || !slices.Equal(f.Words(), left) {
					t.Errorf("%s: the next Append = %d", what, e)
				}
				k := open(t, f, 0)
				got := last(k)
				if !got.is(before) && !got.is(after) {
					t.Errorf("%s: a new journal tells %v", what, got)
				}
				// Only the end mark makes the record valid.
				if whole := n == len(steps)-1 && left[steps[n].at] == 0; got.is(after) != whole {
					t.Errorf("%s: the record is there: %v", what, got.is(after))
				}
				if got.number < math.MaxInt32 {
					appends(t, what, f, 0, k, []uint32{3, 4, 5})
				}
				if got := last(j); !got.is(before) {
					t.Errorf("%s: Last of the elder journal = %v", what, got)
				}
			}
		}
	}
}

// P7.2: the order of the operations: after n of them, the flash is as if just the first n had been performed.
func TestOrderOfOperations(t *testing.T) {
	for _, c := range stages() {
		steps := model{c.words, 0}.steps(c.rec)
		for n := range steps {
			f := flash.Of(c.words)
			j := open(t, f, 0)
			f.Cut(n, 0)
			j.Append(c.rec)
			if !slices.Equal(f.Words(), do(c.words, steps[:n])) {
				t.Errorf("%s: the words after %d operations", c.name, n)
			}
		}
		f := flash.Of(c.words)
		f.Cut(len(steps), 0)
		if e := open(t, f, 0).Append(c.rec); e != api.OK || !slices.Equal(f.Words(), do(c.words, steps)) {
			t.Errorf("%s: with a failure behind the last operation: %d", c.name, e)
		}
	}
}

// P7.3: an Append that returned OK is there after a failure of the next one, wherever it is.
func TestFailureOfTheNext(t *testing.T) {
	for _, c := range stages()[:11] {
		for n := range 70 {
			f := flash.Of(c.words)
			j := open(t, f, 0)
			appends(t, c.name, f, 0, j, c.rec)
			want, next := last(j), noise(64, uint32(n))
			f.Cut(n, 0x00ff00f0)
			if e := j.Append(next); e == api.OK {
				want = told{next, want.number + 1, true}
			}
			f.Start()
			shows(t, fmt.Sprintf("%s: the next one fails after %d operations", c.name, n), f, 0, j, want)
		}
	}
}

// P7.3: failures again and again, in the same Append and in different ones; a record is never lost, and none is made up.
func TestFailuresAgainAndAgain(t *testing.T) {
	for seed := range uint32(20) {
		f := flash.Of(join(noise(256, seed), sectors(nil, nil), noise(256, seed+1)))
		if seed%2 == 1 {
			f = flash.Of(noise(1024, seed))
		}
		outside := f.Words()
		want := last(open(t, f, 1))
		for i, r := range noise(400, 50+seed) {
			j := open(t, f, 1)
			if got := last(j); !got.is(want) {
				t.Fatalf("seed %d, journal %d: Last = %v, want %v", seed, i, got, want)
			}
			rec := noise(1+int(r%64), r)
			f.Cut(int(r>>8%80), noise(1, r)[0])
			e := j.Append(rec)
			next := told{rec, want.number + 1, true}
			if e != api.OK && e != api.ErrOff || (e == api.OK) != f.On() {
				t.Fatalf("seed %d, journal %d: Append = %d", seed, i, e)
			}
			if e == api.OK && !last(j).is(next) || e != api.OK && !last(j).is(want) {
				t.Fatalf("seed %d, journal %d: Last behind %d = %v", seed, i, e, last(j))
			}
			f.Start()
			f.Cut(1000, 0)
			if got := last(open(t, f, 1)); e == api.OK || got.is(next) {
				want = next
			}
		}
		if got := f.Words(); !slices.Equal(got[:256], outside[:256]) || !slices.Equal(got[768:], outside[768:]) {
			t.Errorf("seed %d: other sectors were changed", seed)
		}
		if want.number < 50 {
			t.Errorf("seed %d: only %d records", seed, want.number)
		}
	}
}

// P7.3: an Erase that fails again and again, at every word, loses nothing.
func TestEraseFailsAgain(t *testing.T) {
	full := join(sized(4, 60), sized(5, 60), sized(6, 60), sized(7, 60))
	for k := range uint32(257) {
		f := flash.Of(sectors(join(sized(1, 60), sized(2, 60), sized(3, 60)), full))
		for range 3 {
			j := open(t, f, 0)
			f.Cut(0, k)
			if e := j.Append([]uint32{1}); e != api.ErrOff {
				t.Errorf("Append with an Erase of %d words = %d", k, e)
			}
			f.Start()
			shows(t, fmt.Sprintf("an Erase of %d words", k), f, 0, j, told{noise(60, 7), 7, true})
		}
		appends(t, fmt.Sprintf("behind an Erase of %d words", k), f, 0, open(t, f, 0), []uint32{2})
	}
}

// P7.4: how many operations an Append performs, whatever the flash holds: as many calls of Program as the record has words, plus four, and one Erase only where the other sector is taken.
func TestSpace(t *testing.T) {
	for seed := range uint32(30) {
		f := flash.Of(noise(512, seed))
		if seed%3 == 0 {
			f = flash.New(2)
		}
		j := open(t, f, 0)
		for i, r := range noise(200, 70+seed) {
			size := 1 + int(r%64)
			_, from := model{f.Words(), 0}.current()
			ops := f.Ops()
			if e := j.Append(noise(size, r)); e != api.OK {
				t.Fatalf("seed %d, record %d: Append of %d words = %d", seed, i, size, e)
			}
			_, to := model{f.Words(), 0}.current()
			want := size + 4
			if from != to {
				want++
			}
			if f.Ops()-ops != want && i > 0 || f.Ops()-ops > size+5 {
				t.Errorf("seed %d, record %d: Append of %d words took %d operations", seed, i, size, f.Ops()-ops)
			}
		}
	}
}

// patched is a flash of two sectors that is made of valid records, pieces of them and other words.
func patched(seed uint32) []uint32 {
	out := []uint32{}
	for half := range 2 {
		words := []uint32{}
		number := noise(1, seed)[0]%5 + uint32(half)
		for i, r := range noise(30, 2*seed+uint32(half)) {
			number++
			piece := sized(number, int(r>>4%20))
			switch {
			case r%16 == 0 && i > 1:
				piece[r>>9%uint32(len(piece))] ^= 1 << (r >> 20 % 32)
			case r%16 == 1 && i > 2:
				piece = piece[:r>>9%uint32(len(piece))]
			case r%16 == 2 && i > 2:
				number += r >> 9 % 3
			case r%16 == 3 && i > 0:
				piece = ones(300)
			case r%16 == 4 && i > 3:
				piece = join(ones(int(r>>9%256)), []uint32{r}, ones(256))
			}
			words = append(words, piece...)
		}
		out = append(out, sectors(words[:min(256, len(words))])...)
	}
	return out
}

// P7.5: whatever words the flash contains, Open and Append agree with the model, and what is appended is found.
func TestArbitraryContents(t *testing.T) {
	counts := map[uint32]int{}
	for seed := range uint32(600) {
		contents := [][]uint32{patched(seed), noise(512, seed)}
		for bit := range uint32(3) { // words that only seldom are numbers or lengths
			w := noise(512, seed)
			for i := range w {
				w[i] &= 1<<(bit*3+1) - 1
			}
			contents = append(contents, w)
		}
		for kind, words := range contents {
			what := fmt.Sprintf("contents %d, seed %d", kind, seed)
			f := flash.Of(words)
			j := open(t, f, 0)
			s, _ := model{words, 0}.current()
			counts[s.number]++
			shows(t, what, f, 0, j, s.told)
			if f.Ops() != 0 || !slices.Equal(f.Words(), words) {
				t.Fatalf("%s: Open wrote something", what)
			}
			for i := range 6 {
				appends(t, what, f, 0, j, noise(1+int(seed+uint32(i*17))%64, seed))
			}
		}
	}
	if len(counts) < 10 {
		t.Errorf("the contents are too much alike: %v", counts)
	}
}

// P7.1 and P7.2: a journal has its own two sectors, and no others are read for it or written by it.
func TestWhichSectors(t *testing.T) {
	for _, size := range []int{3, 5, 16} {
		for first := range size - 1 {
			words := noise(256*size, 8)
			if first > 0 {
				copy(words[256*first-256:], sectors(sized(100, 3)))
			}
			if first+2 < size {
				copy(words[256*first+512:], sectors(sized(200, 3)))
			}
			copy(words[256*first:], sectors(join(sized(8, 64), sized(9, 64)), sized(7, 60)))
			f := flash.Of(words)
			j := open(t, f, first)
			shows(t, "in the middle", f, first, j, told{noise(64, 9), 9, true})
			for n := range uint32(12) {
				appends(t, "in the middle", f, first, j, noise(60, n))
			}
			got := f.Words()
			if !slices.Equal(got[:256*first], words[:256*first]) || !slices.Equal(got[256*first+512:], words[256*first+512:]) {
				t.Errorf("a journal on the sectors %d and %d of %d changed others", first, first+1, size)
			}
		}
	}
}

// P7.1: two journals on one flash, each on its own sectors, do not hinder each other.
func TestTwoJournals(t *testing.T) {
	f := flash.New(4)
	a, b := open(t, f, 0), open(t, f, 2)
	for n := range uint32(30) {
		appends(t, "the first journal", f, 0, a, noise(50, n))
		appends(t, "the second journal", f, 2, b, noise(20, n+100))
	}
	f.Cut(3, 0xf)
	if e := a.Append([]uint32{1, 2}); e != api.ErrOff {
		t.Errorf("Append of the first journal = %d", e)
	}
	f.Start()
	appends(t, "the second journal, after the failure of the first", f, 2, b, []uint32{3})
	if e := a.Append([]uint32{1, 2}); e != api.ErrOff {
		t.Errorf("Append of the first journal after its failure = %d", e)
	}
	shows(t, "the first journal", f, 0, a, told{noise(50, 29), 30, true})
}

// R4: arguments stay as they were, with their spare capacity, and nothing of them is kept.
func TestArguments(t *testing.T) {
	f := flash.New(2)
	j := open(t, f, 0)
	for n := range uint32(20) {
		whole := noise(200, n)
		before := slices.Clone(whole)
		rec := whole[10:40]
		if e := j.Append(rec); e != api.OK {
			t.Fatal(e)
		}
		if !slices.Equal(whole, before) {
			t.Error("Append changed its argument")
		}
		spoil(whole)
		shows(t, "an argument that was changed since", f, 0, j, told{before[10:40], n + 1, true})
	}
	whole := noise(200, 30)
	before := slices.Clone(whole)
	j.Append(whole[:0])
	j.Append(whole[:65])
	f.Cut(4, 0xff)
	j.Append(whole[:10])
	j.Append(whole[:10])
	if !slices.Equal(whole, before) {
		t.Error("an Append that failed changed its argument")
	}
}

// R4: what Last returns is memory of its own: of a record that was found, and of one that was appended.
func TestLastIsItsOwn(t *testing.T) {
	f := flash.Of(sectors(sized(3, 10), nil))
	j := open(t, f, 0)
	for n := range uint32(3) {
		a, number, ok := j.Last()
		b, _, _ := j.Last()
		want := slices.Clone(a)
		spoil(a)
		if !slices.Equal(b, want) || number != 3+n || !ok {
			t.Error("two results of Last share memory")
		}
		shows(t, "a result that was changed since", f, 0, j, told{want, 3 + n, true})
		appends(t, "a result that was changed since", f, 0, j, noise(10, n))
		if !slices.Equal(b, want) {
			t.Error("an Append changed what Last returned")
		}
	}
}

// The methods of a nil *Journal, and of one that Open did not return, answer ErrNil, or no words, 0 and false, before all else.
func TestNone(t *testing.T) {
	for _, j := range []*Journal{nil, {}, new(Journal)} {
		for range 2 {
			for _, rec := range [][]uint32{nil, {}, {1}, make([]uint32, 64), make([]uint32, 65)} {
				if e := j.Append(rec); e != api.ErrNil {
					t.Errorf("Append of %d words = %d", len(rec), e)
				}
			}
			if rec, number, ok := j.Last(); len(rec) != 0 || number != 0 || ok {
				t.Errorf("Last = %v, %d, %v", rec, number, ok)
			}
		}
	}
}

// R5: a journal that is opened anew before every call tells and writes the same as one that stays.
func TestOpenAnew(t *testing.T) {
	for seed := range uint32(20) {
		words := patched(seed)
		f, g := flash.Of(words), flash.Of(words)
		j := open(t, f, 0)
		for i, r := range noise(60, seed) {
			k := open(t, g, 0)
			rec := noise(int(r%67), r)
			if a, b := j.Append(rec), k.Append(rec); a != b || !last(j).is(last(k)) {
				t.Fatalf("seed %d, call %d: %d and %d", seed, i, a, b)
			}
			if !slices.Equal(f.Words(), g.Words()) || f.Ops() != g.Ops() {
				t.Fatalf("seed %d, call %d: the flashes differ", seed, i)
			}
		}
	}
}

// The first example of the chapter.
func TestFirstExample(t *testing.T) {
	f := flash.New(2)
	j := open(t, f, 0)
	shows(t, "a new flash", f, 0, j, told{})
	if e := j.Append([]uint32{5, 6}); e != api.OK {
		t.Fatal(e)
	}
	if got := f.Words()[:7]; !slices.Equal(got, []uint32{1, 2, 5, 6, sumOf([]uint32{1, 2, 5, 6}), 0, 0xffffffff}) {
		t.Errorf("the words are %x", got)
	}
	shows(t, "the first example", f, 0, j, told{[]uint32{5, 6}, 1, true})

	f = flash.New(2)
	j = open(t, f, 0)
	for n := range uint32(9) {
		if e := j.Append(noise(60, n)); e != api.OK {
			t.Fatal(e)
		}
		w := f.Words()
		if n < 8 && w[0] != 1 || n == 8 && w[0] != 9 || n >= 3 && w[192] != 4 && n < 8 || n >= 4 && w[256] != 5 || n < 4 && w[256] != 0xffffffff {
			t.Errorf("after %d records: %d, %d", n+1, w[0], w[256])
		}
	}
}

// The second example of the chapter.
func TestSecondExample(t *testing.T) {
	f := flash.New(2)
	j := open(t, f, 0)
	j.Append([]uint32{5, 6})
	f.Cut(3, 0)
	if e := j.Append([]uint32{7, 8, 9}); e != api.ErrOff {
		t.Errorf("Append = %d", e)
	}
	f.Start()
	j = open(t, f, 0)
	shows(t, "the second example", f, 0, j, told{[]uint32{5, 6}, 1, true})
	if e := j.Append([]uint32{4}); e != api.OK {
		t.Errorf("the next Append = %d", e)
	}
	if got := f.Words()[256:261]; !slices.Equal(got, laid(2, []uint32{4})) {
		t.Errorf("at 256 there is %x", got)
	}
}
