package disk_test

import (
	"bytes"
	"slices"
	"testing"

	"watershed/api"
	"watershed/disk"
)

// shuffle yields numbers without order, the same ones in every run.
type shuffle uint64

func (s *shuffle) next() uint64 {
	*s = *s*6364136223846793005 + 1442695040888963407
	z := uint64(*s)
	z = (z ^ z>>33) * 0xff51afd7ed558ccd
	return z ^ z>>29
}

// below yields a number from 0 on, below n.
func (s *shuffle) below(n int) int {
	return int(s.next() % uint64(n))
}

func (s *shuffle) bytes(n int) []byte {
	b := make([]byte, n)
	for i := range b {
		b[i] = byte(s.next())
	}
	return b
}

// slot is a byte of a model's file.
type slot struct {
	b    byte
	safe bool
}

// model says the chapter again, byte by byte, to hold a disk against.
type model struct {
	files map[string][]slot
	off   bool
	armed bool
	n     int // how many operations happen without a failure, if it is armed
	keep  int
	deeds int
}

func (m *model) fail(keep int) {
	m.off = true
	for name, f := range m.files {
		var left []slot
		others := 0
		for _, x := range f {
			if !x.safe {
				others++
			}
			if x.safe || others <= keep {
				left = append(left, slot{x.b, true})
			}
		}
		m.files[name] = left
	}
}

// operation counts one: early has happened when the power fails, late has not.
func (m *model) operation(early, late func()) api.Errno {
	m.deeds++
	early()
	if m.armed && m.n == 0 {
		m.armed = false
		m.fail(m.keep)
		return api.ErrDown
	}
	m.n--
	late()
	return api.OK
}

func nothing() {}

func (m *model) Append(name string, b []byte) api.Errno {
	if m.off {
		return api.ErrDown
	}
	return m.operation(func() {
		f := m.files[name]
		for _, x := range b {
			f = append(f, slot{x, false})
		}
		m.files[name] = f
	}, nothing)
}

func (m *model) find(name string) api.Errno {
	if m.off {
		return api.ErrDown
	}
	if _, ok := m.files[name]; !ok {
		return api.ErrFile
	}
	return api.OK
}

func (m *model) Sync(name string) api.Errno {
	if e := m.find(name); e != api.OK {
		return e
	}
	return m.operation(nothing, func() {
		for i := range m.files[name] {
			m.files[name][i].safe = true
		}
	})
}

func (m *model) Cut(name string, n int) api.Errno {
	if e := m.find(name); e != api.OK {
		return e
	}
	if n < 0 || n > len(m.files[name]) {
		return api.ErrArg
	}
	return m.operation(nothing, func() { m.files[name] = slices.Clone(m.files[name][:n]) })
}

func (m *model) Arm(n, keep int) {
	m.armed, m.n, m.keep = n >= 1, n-1, keep
}

// checkSame reports where a disk and its model differ.
func checkSame(t *testing.T, d *disk.Disk, m *model) {
	t.Helper()
	if d.Up() == m.off || d.Deeds() != m.deeds {
		t.Fatalf("Up = %t, want %t; Deeds = %d, want %d", d.Up(), !m.off, d.Deeds(), m.deeds)
	}
	var names []string
	for name, f := range m.files {
		var data []byte
		for _, x := range f {
			data = append(data, x.b)
		}
		if m.off {
			if b, e := d.Read(name); e != api.ErrDown || len(b) != 0 {
				t.Fatalf("Read(%s) = %x, %d while the power is off", name, b, e)
			}
			continue
		}
		names = append(names, name)
		if b, e := d.Read(name); e != api.OK || !bytes.Equal(b, data) {
			t.Fatalf("Read(%s) = %x, %d, want %x", name, b, e, data)
		}
	}
	slices.Sort(names)
	if l := d.Names(); !slices.Equal(l, names) {
		t.Fatalf("Names = %q, want %q", l, names)
	}
}

func TestDiskIsAsItsModel(t *testing.T) { // P2.1 to P2.4, P2.6: any calls, in any order
	names := []string{"a", "b", "c-1", "d.2"}
	for seed := range 300 {
		s := shuffle(seed)
		d, m := disk.New(), &model{files: map[string][]slot{}}
		for range 200 {
			name := names[s.below(len(names))]
			n := s.below(12)
			switch s.below(9) {
			case 0, 1, 2:
				b := s.bytes(n)
				want(t, "Append", d.Append(name, b), m.Append(name, b))
			case 3, 4:
				want(t, "Sync", d.Sync(name), m.Sync(name))
			case 5:
				n := s.below(len(m.files[name])+4) - 1
				want(t, "Cut", d.Cut(name, n), m.Cut(name, n))
			case 6:
				keep := s.below(8) - 2
				d.Arm(n-1, keep)
				m.Arm(n-1, keep)
			case 7:
				d.Off(n - 2)
				if !m.off {
					m.fail(n - 2)
				}
			case 8:
				d.On()
				m.off = false
			}
			checkSame(t, d, m)
		}
		if t.Failed() {
			t.Fatalf("with the seed %d", seed)
		}
	}
}

// seen is what an onlooker knows of a file from what the calls returned.
type seen struct {
	safe []byte // what a Sync or a failure made safe, and no Cut took
	all  []byte // what was appended, piece by piece
}

// after looks at a file after a power failure: it begins with what was safe, and goes on with what was appended, up to some byte.
func (f *seen) after(t *testing.T, d *disk.Disk) {
	t.Helper()
	b, e := d.Read("a")
	if e == api.ErrFile && len(f.all) == 0 {
		return
	}
	if e != api.OK || !bytes.HasPrefix(b, f.safe) || !bytes.HasPrefix(f.all, b) {
		t.Fatalf("Read = %x, %d; safe were %x, appended %x", b, e, f.safe, f.all)
	}
	f.safe, f.all = bytes.Clone(b), bytes.Clone(b)
}

// step does one call, during which the power may fail, and notes what is known then.
func (f *seen) step(s *shuffle, d *disk.Disk) {
	switch s.below(4) {
	case 0, 1:
		b := s.bytes(s.below(9))
		f.all = append(f.all, b...)
		d.Append("a", b)
	case 2:
		if d.Sync("a") == api.OK {
			f.safe = bytes.Clone(f.all)
		}
	case 3:
		n := s.below(len(f.all) + 1)
		if d.Cut("a", n) == api.OK {
			f.all, f.safe = f.all[:n], f.safe[:min(n, len(f.safe))]
		}
	}
}

func TestSafeBytesOutlastFailures(t *testing.T) { // P2.6
	for seed := range 400 {
		s := shuffle(1000 + seed)
		d, f := disk.New(), &seen{}
		for range 40 {
			d.Arm(1+s.below(8), s.below(14)-2)
			for i := 0; d.Up(); i++ {
				f.step(&s, d)
				if s.below(12) == 0 {
					d.Off(s.below(14) - 2)
				}
				if i > 1000 {
					t.Fatal("the power does not fail")
				}
			}
			d.On()
			f.after(t, d)
		}
	}
}

// pair is a disk with several files, and one with the file a alone that is given the same, as far as it is about a.
type pair struct{ whole, alone *disk.Disk }

// do calls the same on both disks if it is about a; a failure that strikes at another file is an Off for the lonely disk.
func (p pair) do(t *testing.T, name string, keep int, call func(d *disk.Disk) api.Errno) {
	t.Helper()
	e := call(p.whole)
	struck := !p.whole.Up()
	if name == "a" {
		if struck {
			p.alone.Arm(1, keep)
		}
		want(t, "the call on a disk with one file", call(p.alone), e)
	} else if struck {
		p.alone.Off(keep)
	}
	p.whole.On()
	p.alone.On()
}

func TestFilesAreApart(t *testing.T) { // P2.6: files do not affect each other
	for seed := range 300 {
		s := shuffle(2000 + seed)
		p := pair{disk.New(), disk.New()}
		for range 100 {
			name := []string{"a", "b", "aa"}[s.below(3)]
			keep := s.below(10) - 1
			p.whole.Arm(s.below(2)*s.below(2), keep)
			switch n := s.below(7); s.below(4) {
			case 0, 1:
				b := s.bytes(n)
				p.do(t, name, keep, func(d *disk.Disk) api.Errno { return d.Append(name, b) })
			case 2:
				p.do(t, name, keep, func(d *disk.Disk) api.Errno { return d.Sync(name) })
			case 3:
				p.do(t, name, keep, func(d *disk.Disk) api.Errno { return d.Cut(name, n) })
			}
			b, e := p.whole.Read("a")
			c, f := p.alone.Read("a")
			if e != f || !bytes.Equal(b, c) {
				t.Fatalf("with other files a is %x, %d, without them %x, %d", b, e, c, f)
			}
		}
	}
}
