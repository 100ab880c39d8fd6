package audit

// box is a sandbox that is there.
type box struct {
	id, function, host int
	boots, busy        bool // both, if it boots for a call
}

// function is what is known of a function.
type function struct {
	mem int
	on  map[int]int // by host: how many sandboxes of it are there
}

// host is what is known of a host.
type host struct {
	size, used int // memory, and how much of it all that is there have; kept, so that a boot takes no sum over them
	boxes      map[int]*box
}

// view is what is known from outside. Of what is there all numbers may be any: an event that is Right isn't yet one that a core takes.
type view struct {
	last      int // the number of the sandbox that was booted last
	functions map[int]*function
	hosts     map[int]*host
	boxes     map[int]*box
}

// newView is what is known at first: nothing.
func newView() *view {
	return &view{
		functions: make(map[int]*function),
		hosts:     make(map[int]*host),
		boxes:     make(map[int]*box),
	}
}

// host is a host, whichever its number; one that isn't there has no memory, but what takes none may be on it.
func (v *view) host(n int) *host {
	h, ok := v.hosts[n]
	if !ok {
		h = &host{boxes: make(map[int]*box)}
		v.hosts[n] = h
	}
	return h
}

// setFunction lets a function's sandboxes have so much memory each, those too that are there.
func (v *view) setFunction(n, mem int) {
	f, ok := v.functions[n]
	if !ok {
		f = &function{on: make(map[int]int)}
		v.functions[n] = f
	}
	for h, count := range f.on {
		v.host(h).used += count * (mem - f.mem)
	}
	f.mem = mem
}

// fail lets a host have no memory, and nothing be there.
func (v *view) fail(n int) {
	for _, b := range v.host(n).boxes {
		v.drop(b)
	}
	delete(v.hosts, n)
}

// put lets a sandbox of a function that there is be there.
func (v *view) put(b *box) {
	f, h := v.functions[b.function], v.host(b.host)
	f.on[b.host]++
	h.used += f.mem
	h.boxes[b.id] = b
	v.boxes[b.id] = b
}

// drop lets a sandbox be there no more.
func (v *view) drop(b *box) {
	f, h := v.functions[b.function], v.host(b.host)
	f.on[b.host]--
	if f.on[b.host] == 0 {
		delete(f.on, b.host)
	}
	h.used -= f.mem
	delete(h.boxes, b.id)
	delete(v.boxes, b.id)
}
