package device_test

import (
	"fmt"
	"hash/crc32"
	"math"
	"math/rand"
	"slices"
	"testing"

	"pagemend/api"
	"pagemend/device"
)

// content is bytes of a page: each mark makes others, at each index.
func content(mark byte) string {
	b := make([]byte, api.PageSize)
	for i := range b {
		b[i] = byte(i)*37 + mark
	}
	return string(b)
}

func zeros() string { return string(make([]byte, 256)) }

// filled is a device of pages with the contents 1, 2 and so on, behind some writes.
func filled(pages, writes int) api.Device {
	d := api.Device{Writes: writes}
	for i := range pages {
		d.Pages = append(d.Pages, content(byte(i+1)))
	}
	return d
}

func withFaults(d api.Device, faults ...api.Fault) api.Device {
	d.Faults = faults
	return d
}

func withUnreadable(d api.Device, pages ...int) api.Device {
	d.Unreadable = pages
	return d
}

func dead(d api.Device) api.Device {
	d.Dead = true
	return d
}

// withPage is d with other bytes in a page.
func withPage(d api.Device, page int, s string) api.Device {
	d.Pages = slices.Clone(d.Pages)
	d.Pages[page] = s
	return d
}

// show tells a device in short: of each page the length and a checksum.
func show(d api.Device) string {
	pages := []string{}
	for _, s := range d.Pages {
		pages = append(pages, fmt.Sprintf("%d:%08x", len(s), crc32.ChecksumIEEE([]byte(s))))
	}
	return fmt.Sprintf("{pages %v, writes %d, unreadable %v, dead %t, faults %+v}", pages, d.Writes, d.Unreadable, d.Dead, d.Faults)
}

// same reports whether a and b are equal; lists without elements are (R3).
func same(a, b api.Device) bool {
	return slices.Equal(a.Pages, b.Pages) && a.Writes == b.Writes && slices.Equal(a.Unreadable, b.Unreadable) &&
		a.Dead == b.Dead && slices.Equal(a.Faults, b.Faults)
}

// roomy is l in new memory with spare capacity, which is filled.
func roomy[T any](l []T, fill T) []T {
	long := append(slices.Clone(l), fill, fill, fill)
	return long[:len(l)]
}

// separate is d in new memory with spare capacity.
func separate(d api.Device) api.Device {
	d.Pages = roomy(d.Pages, "spare")
	d.Unreadable = roomy(d.Unreadable, -7)
	d.Faults = roomy(d.Faults, api.Fault{Kind: -7})
	return d
}

// whole is d with all of the capacity of its lists.
func whole(d api.Device) api.Device {
	d.Pages = d.Pages[:cap(d.Pages)]
	d.Unreadable = d.Unreadable[:cap(d.Unreadable)]
	d.Faults = d.Faults[:cap(d.Faults)]
	return d
}

// changed calls a function that changes d. It checks that the argument stays, with its spare capacity, that the result shares no memory with it, and that the result is valid, or zero with an error.
func changed(t *testing.T, d api.Device, do func(api.Device) (api.Device, api.Errno)) (api.Device, api.Errno) {
	t.Helper()
	given := separate(d)
	before := whole(given)
	kept := separate(before)
	got, e := do(given)
	if !same(before, kept) {
		t.Errorf("the argument was changed: %s, before: %s", show(before), show(kept))
	}
	result := separate(got)
	clear(before.Pages)
	clear(before.Unreadable)
	clear(before.Faults)
	if !same(got, result) {
		t.Error("the result shares memory with the argument")
	}
	if e != api.OK && !same(got, api.Device{}) {
		t.Errorf("with the error %d: %s", e, show(got))
	}
	if e == api.OK && !device.Valid(got) {
		t.Errorf("the result is not valid: %s", show(got))
	}
	return got, e
}

func inject(t *testing.T, d api.Device, f api.Fault) (api.Device, api.Errno) {
	t.Helper()
	return changed(t, d, func(d api.Device) (api.Device, api.Errno) { return device.Inject(d, f) })
}

func write(t *testing.T, d api.Device, page int, s string) (api.Device, api.Errno) {
	t.Helper()
	return changed(t, d, func(d api.Device) (api.Device, api.Errno) { return device.Write(d, page, s) })
}

func replace(t *testing.T, d api.Device) (api.Device, api.Errno) {
	t.Helper()
	return changed(t, d, device.Replace)
}

func tear(t *testing.T, d api.Device, page int, s string, cut int) (api.Device, api.Errno) {
	t.Helper()
	return changed(t, d, func(d api.Device) (api.Device, api.Errno) { return device.Tear(d, page, s, cut) })
}

// read is device.Read; it checks that the argument stays, and that there are no bytes with an error.
func read(t *testing.T, d api.Device, page int) (string, api.Errno) {
	t.Helper()
	given := separate(d)
	kept := separate(whole(given))
	s, e := device.Read(given, page)
	if !same(whole(given), kept) {
		t.Errorf("Read(%d) changed its argument", page)
	}
	if e != api.OK && s != "" {
		t.Errorf("Read(%d) = %q with the error %d", page, s, e)
	}
	return s, e
}

// reads checks what is read of a page.
func reads(t *testing.T, d api.Device, page int, want string) {
	t.Helper()
	if s, e := read(t, d, page); e != api.OK || s != want {
		t.Errorf("Read(%d) = %q, %d, want %q", page, s, e, want)
	}
}

// readFails checks the error of Read.
func readFails(t *testing.T, d api.Device, page int, want api.Errno) {
	t.Helper()
	if _, e := read(t, d, page); e != want {
		t.Errorf("Read(%d): error %d, want %d", page, e, want)
	}
}

// becomes checks the device and the error that a function returned.
func becomes(t *testing.T, name string, got api.Device, e api.Errno, want api.Device) {
	t.Helper()
	if e != api.OK || !same(got, want) {
		t.Errorf("%s: %s, error %d, want %s", name, show(got), e, show(want))
	}
}

// fails checks the error that a function returned.
func fails(t *testing.T, name string, e, want api.Errno) {
	t.Helper()
	if e != want {
		t.Errorf("%s: error %d, want %d", name, e, want)
	}
}

// written is d behind the write of s to a page.
func written(t *testing.T, d api.Device, page int, s string) api.Device {
	t.Helper()
	d, e := write(t, d, page, s)
	if e != api.OK {
		t.Fatalf("Write(%d): error %d", page, e)
	}
	return d
}

func numbersOutside(end int) []int {
	return []int{math.MinInt, -1 << 40, -64, -1, end, end + 1, end + 64, 1 << 41, math.MaxInt}
}

// oneOfEach is a valid fault of each kind, for a device with 3 pages.
func oneOfEach(at int) []api.Fault {
	return []api.Fault{
		{Kind: api.FaultLost, At: at},
		{Kind: api.FaultMisdirect, At: at, Target: 1},
		{Kind: api.FaultTear, At: at, Byte: 100},
		{Kind: api.FaultRot, At: at, Page: 1, Byte: 100, Mask: 5},
		{Kind: api.FaultUnreadable, At: at, Page: 1},
		{Kind: api.FaultDead, At: at},
	}
}

// goodFaults are valid faults for a device with 3 pages behind 10 writes, those at the ends of each range among them.
func goodFaults() []api.Fault {
	var all []api.Fault
	for _, at := range []int{11, 12, 1000, 1<<40 - 1, 1 << 40} {
		all = append(all, oneOfEach(at)...)
	}
	for _, page := range []int{0, 1, 2} {
		all = append(all, api.Fault{Kind: api.FaultMisdirect, At: 11, Target: page}, api.Fault{Kind: api.FaultUnreadable, At: 11, Page: page})
		for _, at := range []int{0, 1, 254, 255} {
			all = append(all, api.Fault{Kind: api.FaultTear, At: 11, Byte: at})
			for _, mask := range []uint8{1, 128, 255} {
				all = append(all, api.Fault{Kind: api.FaultRot, At: 11, Page: page, Byte: at, Mask: mask})
			}
		}
	}
	return all
}

// badFaults are faults that are not valid for a device with 3 pages behind 10 writes, each by one field.
func badFaults() []api.Fault {
	var all []api.Fault
	for _, kind := range []int{math.MinInt, -1, 0, 7, 8, 256, 1 << 32, math.MaxInt} {
		all = append(all, api.Fault{Kind: kind, At: 11})
	}
	for _, at := range []int{math.MinInt, -1, 0, 1, 9, 10, 1<<40 + 1, math.MaxInt} {
		all = append(all, oneOfEach(at)...)
	}
	for _, page := range numbersOutside(3) {
		all = append(all, api.Fault{Kind: api.FaultMisdirect, At: 11, Target: page})
		all = append(all, api.Fault{Kind: api.FaultRot, At: 11, Page: page, Mask: 1})
		all = append(all, api.Fault{Kind: api.FaultUnreadable, At: 11, Page: page})
	}
	for _, at := range numbersOutside(256) {
		all = append(all, api.Fault{Kind: api.FaultTear, At: 11, Byte: at})
		all = append(all, api.Fault{Kind: api.FaultRot, At: 11, Byte: at, Mask: 1})
	}
	for at := range 256 {
		all = append(all, api.Fault{Kind: api.FaultRot, At: 11, Page: 1, Byte: at})
	}
	return append(all, unusedFields()...)
}

// unusedFields are faults of which a field is set that their kind does not use.
func unusedFields() []api.Fault {
	uses := map[int]string{
		api.FaultLost: "", api.FaultMisdirect: "T", api.FaultTear: "B", api.FaultRot: "PBM", api.FaultUnreadable: "P", api.FaultDead: "",
	}
	var all []api.Fault
	for _, f := range oneOfEach(11) {
		for _, n := range []int{1, 2, -1, math.MinInt, math.MaxInt} {
			for field, set := range map[rune]func(f api.Fault) api.Fault{
				'P': func(f api.Fault) api.Fault { f.Page = n; return f },
				'T': func(f api.Fault) api.Fault { f.Target = n; return f },
				'B': func(f api.Fault) api.Fault { f.Byte = n; return f },
				'M': func(f api.Fault) api.Fault { f.Mask = uint8(n) | 1; return f },
			} {
				if !slices.Contains([]rune(uses[f.Kind]), field) {
					all = append(all, set(f))
				}
			}
		}
	}
	return all
}

// manyFaults are n valid faults for a device behind 10 writes.
func manyFaults(n int) []api.Fault {
	var all []api.Fault
	for i := range n {
		all = append(all, oneOfEach(11 + 3*(n-i))[i%6])
	}
	return all
}

// goodDevices are valid devices.
func goodDevices() map[string]api.Device {
	all := []int{}
	for page := range 64 {
		all = append(all, page)
	}
	return map[string]api.Device{
		"one page":                   filled(1, 0),
		"64 pages":                   filled(64, 0),
		"blank":                      {Pages: []string{zeros()}},
		"as many writes as can be":   filled(3, 1<<40),
		"one write less":             withFaults(filled(3, 1<<40-1), oneOfEach(1<<40)...),
		"dead":                       dead(filled(3, 10)),
		"dead, with the rest":        dead(withFaults(withUnreadable(filled(3, 10), 0, 2), oneOfEach(11)...)),
		"the first one unreadable":   withUnreadable(filled(3, 10), 0),
		"the last one unreadable":    withUnreadable(filled(3, 10), 2),
		"all unreadable":             withUnreadable(filled(64, 10), all...),
		"each kind":                  withFaults(filled(3, 10), oneOfEach(11)...),
		"the same fault again":       withFaults(filled(3, 10), oneOfEach(12)[0], oneOfEach(12)[0]),
		"faults in another order":    withFaults(filled(3, 10), oneOfEach(99)[4], oneOfEach(11)[1], oneOfEach(50)[2]),
		"64 faults":                  withFaults(filled(3, 10), manyFaults(64)...),
		"a fault of the first write": withFaults(filled(3, 0), oneOfEach(1)...),
	}
}

// badDevices are devices that are not valid, each in one way.
func badDevices() map[string]api.Device {
	all := map[string]api.Device{
		"nothing":                     {},
		"no pages":                    {Pages: []string{}, Writes: 10},
		"65 pages":                    filled(65, 10),
		"200 pages":                   filled(200, 10),
		"unreadable twice":            withUnreadable(filled(3, 10), 1, 1),
		"unreadable, descending":      withUnreadable(filled(3, 10), 2, 1),
		"unreadable, the last behind": withUnreadable(filled(3, 10), 0, 1, 2, 3),
		"unreadable, the first -1":    withUnreadable(filled(3, 10), -1, 0, 1, 2),
		"unreadable, 0 again":         withUnreadable(filled(3, 10), 0, 1, 2, 0),
		"65 faults":                   withFaults(filled(3, 10), manyFaults(65)...),
		"a fault behind the writes":   withFaults(filled(3, 1<<40), oneOfEach(1 << 40)[0]),
		"two ways":                    withUnreadable(filled(3, -1), 7),
	}
	for _, size := range []int{0, 1, 255, 257, 512, 1 << 16} {
		for _, page := range []int{0, 1, 2} {
			all[fmt.Sprint("page ", page, " with ", size, " bytes")] = withPage(filled(3, 10), page, string(make([]byte, size)))
		}
	}
	for _, writes := range []int{math.MinInt, -1 << 40, -1, 1<<40 + 1, math.MaxInt} {
		all[fmt.Sprint(writes, " writes")] = filled(3, writes)
	}
	for _, page := range numbersOutside(3) {
		all[fmt.Sprint("unreadable ", page)] = withUnreadable(filled(3, 10), page)
	}
	for _, f := range badFaults() {
		all[fmt.Sprintf("alone %+v", f)] = withFaults(filled(3, 10), f)
		all[fmt.Sprintf("the last one %+v", f)] = withFaults(filled(3, 10), oneOfEach(11)[0], f)
		all[fmt.Sprintf("the first one %+v", f)] = withFaults(filled(3, 10), f, oneOfEach(11)[0])
	}
	return all
}

// P4.1: blank pages, no writes, no faults.
func TestNew(t *testing.T) {
	for pages := 1; pages <= 64; pages++ {
		d, e := device.New(pages)
		if e != api.OK || len(d.Pages) != pages || !same(d, api.Device{Pages: d.Pages}) || !device.Valid(d) {
			t.Errorf("New(%d) = %s, %d", pages, show(d), e)
		}
		for page := range pages {
			reads(t, d, page, zeros())
		}
	}
	for _, pages := range []int{math.MinInt, -64, -1, 0, 65, 66, 1 << 32, math.MaxInt} {
		if d, e := device.New(pages); e != api.ErrRange || !same(d, api.Device{}) {
			t.Errorf("New(%d) = %s, %d", pages, show(d), e)
		}
	}
}

// P4.1: each result of New has memory of its own.
func TestNewIsNew(t *testing.T) {
	d, _ := device.New(2)
	d.Pages[1] = content(1)
	d, _ = device.New(2)
	reads(t, d, 1, zeros())
}

// P4.1: the devices at the ends of each range are valid.
func TestValid(t *testing.T) {
	for name, d := range goodDevices() {
		if !device.Valid(d) {
			t.Errorf("not valid: %s", name)
		}
	}
	for _, f := range goodFaults() {
		if !device.Valid(withFaults(filled(3, 10), f)) {
			t.Errorf("not valid with %+v", f)
		}
	}
}

// P4.1: each field can make a device invalid.
func TestNotValid(t *testing.T) {
	for name, d := range badDevices() {
		if device.Valid(d) {
			t.Errorf("valid: %s", name)
		}
	}
}

// P4.1: which places can be named depends on the number of pages.
func TestValidPlaces(t *testing.T) {
	for _, pages := range []int{1, 2, 63, 64} {
		for _, page := range []int{-1, 0, 1, pages - 1, pages, 63, 64} {
			is := page >= 0 && page < pages
			for _, f := range []api.Fault{
				{Kind: api.FaultMisdirect, At: 1, Target: page},
				{Kind: api.FaultUnreadable, At: 1, Page: page},
				{Kind: api.FaultRot, At: 1, Page: page, Mask: 1},
			} {
				if device.Valid(withFaults(filled(pages, 0), f)) != is {
					t.Errorf("%d pages, %+v: valid is %t", pages, f, !is)
				}
			}
			if device.Valid(withUnreadable(filled(pages, 0), page)) != is {
				t.Errorf("%d pages, %d unreadable: valid is %t", pages, page, !is)
			}
		}
	}
}

// P4.2: a fault is added behind the others, also the same one again, and one for an earlier write.
func TestInject(t *testing.T) {
	for _, f := range goodFaults() {
		for _, n := range []int{0, 1, 2, 62, 63} {
			d := withUnreadable(withFaults(filled(3, 10), manyFaults(n)...), 1)
			got, e := inject(t, d, f)
			becomes(t, fmt.Sprintf("%d faults and %+v", n, f), got, e, withFaults(d, append(manyFaults(n), f)...))
		}
	}
	d := filled(3, 10)
	var want []api.Fault
	for _, at := range []int{30, 20, 20, 11} {
		for _, f := range oneOfEach(at) {
			next, e := inject(t, d, f)
			want = append(want, f)
			becomes(t, fmt.Sprintf("%+v", f), next, e, withFaults(filled(3, 10), want...))
			d = next
		}
	}
}

// P4.2: a device that has failed can get a fault, too.
func TestInjectIntoDead(t *testing.T) {
	d := dead(filled(3, 10))
	got, e := inject(t, d, oneOfEach(11)[2])
	becomes(t, "dead", got, e, withFaults(d, oneOfEach(11)[2]))
}

// P4.2: the errors, in their order.
func TestInjectErrors(t *testing.T) {
	bad := badFaults()
	for name, d := range badDevices() {
		for _, f := range []api.Fault{oneOfEach(11)[0], bad[0], bad[len(bad)-1]} {
			_, e := inject(t, d, f)
			fails(t, name, e, api.ErrState)
		}
	}
	full := withFaults(filled(3, 10), manyFaults(64)...)
	for _, f := range bad {
		_, e := inject(t, filled(3, 10), f)
		fails(t, fmt.Sprintf("%+v", f), e, api.ErrRange)
		_, e = inject(t, full, f)
		fails(t, fmt.Sprintf("full, %+v", f), e, api.ErrRange)
	}
	for _, f := range goodFaults() {
		_, e := inject(t, full, f)
		fails(t, fmt.Sprintf("full, %+v", f), e, api.ErrLimit)
	}
	for _, f := range oneOfEach(1 << 40) {
		_, e := inject(t, filled(3, 1<<40), f)
		fails(t, "as many writes as can be", e, api.ErrRange)
		got, e := inject(t, filled(3, 1<<40-1), f)
		becomes(t, "one write less", got, e, withFaults(filled(3, 1<<40-1), f))
	}
}

// P4.3: the bytes of each page; faults that are still to come, and other pages that cannot be read, do not matter.
func TestRead(t *testing.T) {
	for _, pages := range []int{1, 3, 64} {
		d := withFaults(filled(pages, 10), api.Fault{Kind: api.FaultDead, At: 11}, api.Fault{Kind: api.FaultUnreadable, At: 11})
		for page := range pages {
			reads(t, d, page, content(byte(page+1)))
		}
	}
	d := withUnreadable(filled(4, 10), 0, 2)
	reads(t, d, 1, content(2))
	reads(t, d, 3, content(4))
	readFails(t, d, 0, api.ErrUnreadable)
	readFails(t, d, 2, api.ErrUnreadable)
}

// P4.3: the errors, in their order.
func TestReadErrors(t *testing.T) {
	for name, d := range badDevices() {
		for _, page := range []int{0, 2, -1, 3} {
			if _, e := read(t, d, page); e != api.ErrState {
				t.Errorf("%s, page %d: error %d", name, page, e)
			}
			readFails(t, dead(d), page, api.ErrState)
		}
	}
	d := withUnreadable(filled(3, 10), 1)
	for _, page := range []int{0, 1, 2, -1, 3, math.MaxInt} {
		readFails(t, dead(d), page, api.ErrDead)
	}
	for _, page := range numbersOutside(3) {
		readFails(t, d, page, api.ErrRange)
	}
	readFails(t, filled(64, 0), 64, api.ErrRange)
	readFails(t, d, 1, api.ErrUnreadable)
}

// P4.4: without faults a write writes its page, counts, and makes the page readable.
func TestWrite(t *testing.T) {
	for _, pages := range []int{1, 3, 64} {
		for page := range pages {
			d := withUnreadable(filled(pages, 10), page)
			got, e := write(t, d, page, content(99))
			becomes(t, fmt.Sprint("page ", page), got, e, withPage(filled(pages, 11), page, content(99)))
		}
	}
	d := withUnreadable(filled(4, 10), 0, 1, 3)
	got, e := write(t, d, 1, content(99))
	becomes(t, "others unreadable", got, e, withUnreadable(withPage(filled(4, 11), 1, content(99)), 0, 3))
	got, e = write(t, d, 2, content(99))
	becomes(t, "a readable one", got, e, withUnreadable(withPage(filled(4, 11), 2, content(99)), 0, 1, 3))
	got, e = write(t, filled(1, 1<<40-1), 0, content(99))
	becomes(t, "the last write", got, e, withPage(filled(1, 1<<40), 0, content(99)))
}

// P4.4: each kind of fault, alone; the page 0 is written, and the pages 0 and 1 could not be read.
func TestWriteWithFault(t *testing.T) {
	before := withUnreadable(filled(3, 10), 0, 1)
	after := filled(3, 11)
	rotten := []byte(content(2))
	rotten[100] ^= 5
	for i, want := range []api.Device{
		withUnreadable(after, 0, 1),
		withUnreadable(withPage(after, 1, content(99)), 0),
		withUnreadable(withPage(after, 0, content(99)[:100]+content(1)[100:]), 1),
		withUnreadable(withPage(withPage(after, 0, content(99)), 1, string(rotten)), 1),
		withUnreadable(withPage(after, 0, content(99)), 1),
		dead(withUnreadable(withPage(after, 0, content(99)), 1)),
	} {
		f := oneOfEach(11)[i]
		got, e := write(t, withFaults(before, f), 0, content(99))
		becomes(t, fmt.Sprintf("%+v", f), got, e, want)
	}
}

// P4.4: a torn write does its first bytes only; the page can be read then, though none is done.
func TestWriteTorn(t *testing.T) {
	for cut := range 256 {
		d := withFaults(withUnreadable(filled(2, 10), 1), api.Fault{Kind: api.FaultTear, At: 11, Byte: cut})
		got, e := write(t, d, 1, content(99))
		becomes(t, fmt.Sprint("torn at ", cut), got, e, withPage(filled(2, 11), 1, content(99)[:cut]+content(2)[cut:]))
	}
}

// P4.4: a misdirected write goes to each page, also to the one that is meant.
func TestWriteMisdirected(t *testing.T) {
	for target := range 4 {
		d := withFaults(withUnreadable(filled(4, 10), 0, 1, 2, 3), api.Fault{Kind: api.FaultMisdirect, At: 11, Target: target})
		left := slices.DeleteFunc([]int{0, 1, 2, 3}, func(page int) bool { return page == target })
		for page := range 4 {
			got, e := write(t, d, page, content(99))
			becomes(t, fmt.Sprint(page, " to ", target), got, e, withUnreadable(withPage(filled(4, 11), target, content(99)), left...))
		}
	}
}

// P4.4: rot changes one byte, of the page that is written, or of another one.
func TestWriteRot(t *testing.T) {
	for at := range 256 {
		for _, mask := range []uint8{1, 128, 255} {
			for page := range 2 {
				d := withFaults(filled(2, 10), api.Fault{Kind: api.FaultRot, At: 11, Page: page, Byte: at, Mask: mask})
				want := withPage(filled(2, 11), 0, content(99))
				b := []byte(want.Pages[page])
				b[at] ^= mask
				got, e := write(t, d, 0, content(99))
				becomes(t, fmt.Sprintf("rot %+v", d.Faults), got, e, withPage(want, page, string(b)))
			}
		}
	}
}

// P4.4: a page becomes unreadable, and takes its place among those that are; one that is already is named once.
func TestWriteUnreadable(t *testing.T) {
	for _, c := range []struct {
		before []int
		page   int
		want   []int
	}{
		{nil, 0, []int{0}},
		{nil, 4, []int{4}},
		{[]int{1, 3}, 0, []int{0, 1, 3}},
		{[]int{1, 3}, 1, []int{1, 3}},
		{[]int{1, 3}, 2, []int{1, 2, 3}},
		{[]int{1, 3}, 3, []int{1, 3}},
		{[]int{1, 3}, 4, []int{1, 3, 4}},
		{[]int{1, 3, 5}, 5, []int{1, 3, 5}}, // the page that is written: it can be read, and then again not
	} {
		d := withFaults(withUnreadable(filled(6, 10), c.before...), api.Fault{Kind: api.FaultUnreadable, At: 11, Page: c.page})
		got, e := write(t, d, 5, content(99))
		becomes(t, fmt.Sprintf("%+v", c), got, e, withUnreadable(withPage(filled(6, 11), 5, content(99)), c.want...))
		readFails(t, got, c.page, api.ErrUnreadable)
	}
}

// P4.4: of several faults that concern the write itself, only the first one counts, and all of them leave the list.
func TestWriteFirstCounts(t *testing.T) {
	lost := api.Fault{Kind: api.FaultLost, At: 11}
	astray := api.Fault{Kind: api.FaultMisdirect, At: 11, Target: 1}
	further := api.Fault{Kind: api.FaultMisdirect, At: 11, Target: 2}
	torn := api.Fault{Kind: api.FaultTear, At: 11, Byte: 100}
	later := api.Fault{Kind: api.FaultTear, At: 12, Byte: 3}
	after := filled(3, 11)
	for name, c := range map[string]struct {
		faults []api.Fault
		want   api.Device
	}{
		"lost":                       {[]api.Fault{lost, astray, torn}, after},
		"lost twice":                 {[]api.Fault{lost, lost}, after},
		"astray":                     {[]api.Fault{astray, lost, torn}, withPage(after, 1, content(99))},
		"astray, then further":       {[]api.Fault{astray, further}, withPage(after, 1, content(99))},
		"further, then astray":       {[]api.Fault{further, astray}, withPage(after, 2, content(99))},
		"torn":                       {[]api.Fault{torn, lost, astray}, withPage(after, 0, content(99)[:100]+content(1)[100:])},
		"torn, behind a later fault": {[]api.Fault{later, torn, lost}, withFaults(withPage(after, 0, content(99)[:100]+content(1)[100:]), later)},
		"only a later fault":         {[]api.Fault{later}, withFaults(withPage(after, 0, content(99)), later)},
	} {
		got, e := write(t, withFaults(filled(3, 10), c.faults...), 0, content(99))
		becomes(t, name, got, e, c.want)
	}
}

// P4.4: the faults that rot, make unreadable or kill all happen, behind the write, wherever they stand in the list.
func TestWriteAllStrike(t *testing.T) {
	rot := func(page int, mask uint8) api.Fault {
		return api.Fault{Kind: api.FaultRot, At: 11, Page: page, Byte: 50, Mask: mask}
	}
	unreadable := func(page int) api.Fault { return api.Fault{Kind: api.FaultUnreadable, At: 11, Page: page} }
	kill := api.Fault{Kind: api.FaultDead, At: 11}
	lost := api.Fault{Kind: api.FaultLost, At: 11}
	astray := api.Fault{Kind: api.FaultMisdirect, At: 11, Target: 2}
	torn := api.Fault{Kind: api.FaultTear, At: 11, Byte: 100}
	rotten := func(s string, mask uint8) string { return s[:50] + string([]byte{s[50] ^ mask}) + s[51:] }
	after, done := filled(3, 11), withPage(filled(3, 11), 0, content(99))
	for name, c := range map[string]struct {
		faults []api.Fault
		want   api.Device
	}{
		"each":                 {[]api.Fault{rot(0, 3), unreadable(0), kill}, dead(withUnreadable(withPage(done, 0, rotten(content(99), 3)), 0))},
		"each, backwards":      {[]api.Fault{kill, unreadable(0), rot(0, 3)}, dead(withUnreadable(withPage(done, 0, rotten(content(99), 3)), 0))},
		"before a torn one":    {[]api.Fault{rot(0, 3), unreadable(0), torn}, withUnreadable(withPage(after, 0, rotten(content(99)[:100]+content(1)[100:], 3)), 0)},
		"before one astray":    {[]api.Fault{rot(2, 3), unreadable(2), astray}, withUnreadable(withPage(after, 2, rotten(content(99), 3)), 2)},
		"before a lost one":    {[]api.Fault{rot(0, 3), lost, kill}, dead(withPage(after, 0, rotten(content(1), 3)))},
		"behind a lost one":    {[]api.Fault{lost, unreadable(1), kill}, dead(withUnreadable(after, 1))},
		"two rot":              {[]api.Fault{rot(0, 3), rot(0, 6)}, withPage(done, 0, rotten(content(99), 5))},
		"rot twice":            {[]api.Fault{rot(0, 3), rot(0, 3)}, done},
		"rot of two pages":     {[]api.Fault{rot(1, 3), rot(2, 6)}, withPage(withPage(done, 1, rotten(content(2), 3)), 2, rotten(content(3), 6))},
		"two unreadable":       {[]api.Fault{unreadable(2), unreadable(1), unreadable(2)}, withUnreadable(done, 1, 2)},
		"killed twice":         {[]api.Fault{kill, kill}, dead(done)},
		"of an unreadable one": {[]api.Fault{unreadable(1), rot(1, 3)}, withUnreadable(withPage(done, 1, rotten(content(2), 3)), 1)},
	} {
		got, e := write(t, withFaults(filled(3, 10), c.faults...), 0, content(99))
		becomes(t, name, got, e, c.want)
	}
}

// P4.4: only the faults of this write leave the list; the others stay, in their order.
func TestWriteKeepsOthers(t *testing.T) {
	var faults, want []api.Fault
	for i, at := range []int{20, 11, 12, 11, 1 << 40, 12, 11, 13, 20} {
		f := oneOfEach(at)[i%6]
		faults = append(faults, f)
		if at != 11 {
			want = append(want, f)
		}
	}
	got, e := write(t, withFaults(filled(3, 10), faults...), 2, content(99))
	if e != api.OK || !slices.Equal(got.Faults, want) {
		t.Errorf("left are %+v, error %d, want %+v", got.Faults, e, want)
	}
	full := withFaults(filled(3, 10), manyFaults(64)...)
	got, e = write(t, full, 1, content(99))
	becomes(t, "64 faults to come", got, e, withFaults(withPage(filled(3, 11), 1, content(99)), manyFaults(64)...))
}

// P4.4: 64 faults of one write.
func TestWriteManyFaults(t *testing.T) {
	d := filled(64, 10)
	want := filled(64, 11)
	want.Pages[7] = content(99)
	for page := range 64 {
		d.Faults = append(d.Faults, api.Fault{Kind: api.FaultUnreadable, At: 11, Page: 63 - page})
		want.Unreadable = append(want.Unreadable, page)
	}
	got, e := write(t, d, 7, content(99))
	becomes(t, "all unreadable", got, e, want)
}

// sizes are lengths that are not that of a page.
func sizes() []int { return []int{0, 1, 255, 257, 512, 1 << 16} }

// P4.4: the errors, in their order; the write does not count, and its faults are still to come.
func TestWriteErrors(t *testing.T) {
	refused := func(name string, d api.Device, page int, s string, want api.Errno) {
		t.Helper()
		_, e := write(t, d, page, s)
		fails(t, name, e, want)
	}
	for name, d := range badDevices() {
		refused(name, d, 0, content(99), api.ErrState)
		refused(name, dead(d), -1, "", api.ErrState)
	}
	d, last := withFaults(filled(3, 10), oneOfEach(11)...), filled(3, 1<<40)
	for _, size := range sizes() {
		s := string(make([]byte, size))
		refused("size", d, 2, s, api.ErrSize)
		refused("size of the last write", last, 0, s, api.ErrSize)
		refused("size, unreadable", withUnreadable(d, 0), 0, s, api.ErrSize)
	}
	for _, page := range numbersOutside(3) {
		for _, s := range []string{content(99), content(99)[:255], content(99) + "x", ""} {
			refused("no page", d, page, s, api.ErrRange)
			refused("no page of the last write", last, page, s, api.ErrRange)
			refused("dead, no page", dead(d), page, s, api.ErrDead)
			refused("dead, a page", dead(last), 1, s, api.ErrDead)
		}
	}
	refused("limit", last, 0, content(99), api.ErrLimit)
	refused("limit, unreadable", withUnreadable(last, 0), 0, content(99), api.ErrLimit)
	refused("behind 64 pages", filled(64, 0), 64, content(99), api.ErrRange)
}

// P4.5: blank, readable and not dead, with the writes and the faults of the old one.
func TestReplace(t *testing.T) {
	for name, d := range goodDevices() {
		want := api.Device{Writes: d.Writes, Faults: d.Faults}
		for range d.Pages {
			want.Pages = append(want.Pages, zeros())
		}
		got, e := replace(t, d)
		becomes(t, name, got, e, want)
	}
	for name, d := range badDevices() {
		_, e := replace(t, d)
		fails(t, name, e, api.ErrState)
		_, e = replace(t, dead(d))
		fails(t, name+", dead", e, api.ErrState)
	}
}

// P4.5: the faults of the old device come to the new one, at the same numbers.
func TestReplaceKeepsNumbers(t *testing.T) {
	d := withFaults(filled(2, 10), api.Fault{Kind: api.FaultDead, At: 11}, api.Fault{Kind: api.FaultLost, At: 12})
	d = written(t, d, 0, content(99))
	_, e := write(t, d, 0, content(98))
	fails(t, "dead", e, api.ErrDead)
	d, e = replace(t, d)
	fails(t, "replaced", e, api.OK)
	d = written(t, d, 0, content(97))
	reads(t, d, 0, zeros())
	d = written(t, d, 0, content(96))
	reads(t, d, 0, content(96))
}

// P4.5: the first bytes, at each place; it is no write, no fault happens, and the page can be read again.
func TestTear(t *testing.T) {
	d := withUnreadable(withFaults(filled(3, 10), oneOfEach(11)...), 0, 1)
	for page := range 3 {
		for cut := range 257 {
			want := withPage(d, page, content(99)[:cut]+content(byte(page + 1))[cut:])
			want.Unreadable = slices.DeleteFunc([]int{0, 1}, func(x int) bool { return x == page })
			got, e := tear(t, d, page, content(99), cut)
			becomes(t, fmt.Sprint("page ", page, ", cut ", cut), got, e, want)
		}
	}
	got, e := tear(t, filled(1, 1<<40), 0, content(99), 7)
	becomes(t, "as many writes as can be", got, e, withPage(filled(1, 1<<40), 0, content(99)[:7]+content(1)[7:]))
}

// P4.5: the errors of Tear, in their order.
func TestTearErrors(t *testing.T) {
	refused := func(name string, d api.Device, page int, s string, cut int, want api.Errno) {
		t.Helper()
		_, e := tear(t, d, page, s, cut)
		fails(t, fmt.Sprint(name, ": page ", page, ", cut ", cut), e, want)
	}
	for name, d := range badDevices() {
		refused(name, d, 0, content(99), 10, api.ErrState)
		refused(name, dead(d), -1, "", -1, api.ErrState)
	}
	d := filled(3, 10)
	for _, s := range []string{content(99), content(99)[:255], content(99) + "x", ""} {
		for _, page := range numbersOutside(3) {
			refused("no page", d, page, s, 10, api.ErrRange)
			refused("dead, no page", dead(d), page, s, 10, api.ErrDead)
		}
		for _, cut := range numbersOutside(257) {
			refused("no cut", d, 2, s, cut, api.ErrRange)
			refused("dead, no cut", dead(d), 2, s, cut, api.ErrDead)
		}
	}
	for _, size := range sizes() {
		for _, cut := range []int{0, 1, 255, 256} {
			refused("size", d, 2, string(make([]byte, size)), cut, api.ErrSize)
			refused("dead, size", dead(d), 2, string(make([]byte, size)), cut, api.ErrDead)
		}
	}
}

// Consequences: a device without faults reads what was written last.
func TestReadsWhatWasWritten(t *testing.T) {
	random := rand.New(rand.NewSource(4))
	for _, pages := range []int{1, 2, 64} {
		d, _ := device.New(pages)
		want := slices.Repeat([]string{zeros()}, pages)
		for range 300 {
			page := random.Intn(pages)
			want[page] = content(byte(random.Intn(256)))
			d = written(t, d, page, want[page])
			reads(t, d, page, want[page])
		}
		for page, s := range want {
			reads(t, d, page, s)
		}
	}
}

// Consequences: a fault concerns one write alone: the one with its number, not the one before or behind it.
func TestFaultConcernsOneWrite(t *testing.T) {
	for at := 1; at <= 4; at++ {
		for _, f := range []api.Fault{
			{Kind: api.FaultLost, At: at},
			{Kind: api.FaultMisdirect, At: at, Target: 1},
			{Kind: api.FaultTear, At: at, Byte: 9},
			{Kind: api.FaultRot, At: at, Byte: 200, Mask: 64},
			{Kind: api.FaultUnreadable, At: at},
		} {
			d, _ := device.New(2)
			d, _ = inject(t, d, f)
			for n := 1; n <= 5; n++ {
				d = written(t, d, 0, content(byte(n)))
				s, e := read(t, d, 0)
				if right := e == api.OK && s == content(byte(n)); right == (n == at) {
					t.Errorf("%+v: the write %d is right: %t", f, n, right)
				}
				if there := len(d.Faults) == 1; there != (n < at) {
					t.Errorf("%+v: behind the write %d it is to come: %t", f, n, there)
				}
			}
		}
	}
}

// Consequences: Write says api.OK, whatever a fault does to it.
func TestWriteSaysNothing(t *testing.T) {
	for _, f := range goodFaults() {
		if _, e := write(t, withFaults(filled(3, 10), f), 1, content(99)); e != api.OK {
			t.Errorf("%+v: error %d", f, e)
		}
	}
}

// Example 1: with a lost write at 2, of two writes to the page 0 the first one is read.
func TestExample(t *testing.T) {
	d, _ := device.New(1)
	d, e := inject(t, d, api.Fault{Kind: api.FaultLost, At: 2})
	fails(t, "lost at 2", e, api.OK)
	d = written(t, d, 0, content(1))
	d = written(t, d, 0, content(2))
	reads(t, d, 0, content(1))
	d = written(t, d, 0, content(3))
	reads(t, d, 0, content(3))
}

// model is a device as the chapter tells it, with other means.
type model struct {
	pages      [][]byte
	unreadable map[int]bool
	dead       bool
	writes     int
	faults     map[int][]api.Fault // by write
	order      []api.Fault         // all that are to come
}

func (m *model) put(page int, s string) {
	copy(m.pages[page], s)
	delete(m.unreadable, page)
}

func (m *model) write(page int, s string) {
	m.writes++
	due := m.faults[m.writes]
	m.order = slices.DeleteFunc(m.order, func(f api.Fault) bool { return f.At == m.writes })
	first := slices.IndexFunc(due, func(f api.Fault) bool { return f.Kind <= api.FaultTear })
	switch {
	case first < 0:
		m.put(page, s)
	case due[first].Kind == api.FaultMisdirect:
		m.put(due[first].Target, s)
	case due[first].Kind == api.FaultTear:
		m.put(page, s[:due[first].Byte])
	}
	for _, f := range due {
		if f.Kind == api.FaultRot {
			m.pages[f.Page][f.Byte] ^= f.Mask
		}
		if f.Kind == api.FaultUnreadable {
			m.unreadable[f.Page] = true
		}
		m.dead = m.dead || f.Kind == api.FaultDead
	}
}

func (m *model) device() api.Device {
	d := api.Device{Writes: m.writes, Dead: m.dead, Faults: slices.Clone(m.order)}
	for page, b := range m.pages {
		d.Pages = append(d.Pages, string(b))
		if m.unreadable[page] {
			d.Unreadable = append(d.Unreadable, page)
		}
	}
	return d
}

func (m *model) blank() {
	m.dead, m.unreadable = false, map[int]bool{}
	for _, b := range m.pages {
		clear(b)
	}
}

// randomFault is a valid fault for one of the next writes.
func randomFault(random *rand.Rand, m *model) api.Fault {
	f := api.Fault{Kind: 1 + random.Intn(6), At: m.writes + 1 + random.Intn(6)}
	switch f.Kind {
	case api.FaultMisdirect:
		f.Target = random.Intn(len(m.pages))
	case api.FaultTear:
		f.Byte = random.Intn(256)
	case api.FaultRot:
		f.Page, f.Byte, f.Mask = random.Intn(len(m.pages)), random.Intn(256), uint8(1+random.Intn(255))
	case api.FaultUnreadable:
		f.Page = random.Intn(len(m.pages))
	}
	return f
}

// P4.2 to P4.5: histories of a device are those of the model.
func TestHistories(t *testing.T) {
	random := rand.New(rand.NewSource(44))
	for range 150 {
		pages := 1 + random.Intn(5)
		d, _ := device.New(pages)
		m := &model{unreadable: map[int]bool{}, faults: map[int][]api.Fault{}}
		for range pages {
			m.pages = append(m.pages, make([]byte, 256))
		}
		for range 120 {
			e, page, s := api.OK, random.Intn(pages), content(byte(random.Intn(256)))
			switch n := random.Intn(10); {
			case m.dead:
				d, e = replace(t, d)
				m.blank()
			case n < 4 && len(m.order) < 64:
				f := randomFault(random, m)
				d, e = inject(t, d, f)
				m.faults[f.At] = append(m.faults[f.At], f)
				m.order = append(m.order, f)
			case n < 9:
				d, e = write(t, d, page, s)
				m.write(page, s)
			default:
				cut := random.Intn(257)
				d, e = tear(t, d, page, s, cut)
				m.put(page, s[:cut])
			}
			if want := m.device(); e != api.OK || !same(d, want) {
				t.Fatalf("%s, error %d, want %s", show(d), e, show(want))
			}
			readsAll(t, d, m)
		}
	}
}

// readsAll checks what is read of each page of d.
func readsAll(t *testing.T, d api.Device, m *model) {
	t.Helper()
	for page, b := range m.pages {
		switch {
		case m.dead:
			readFails(t, d, page, api.ErrDead)
		case m.unreadable[page]:
			readFails(t, d, page, api.ErrUnreadable)
		default:
			reads(t, d, page, string(b))
		}
	}
}
