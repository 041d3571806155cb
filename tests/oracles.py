"""Slow and plain ways to what the program computes, taken word by word from the document."""


def plain_steps(web, frames, left_out=()):
    """The plain run, done step by step: the steps with their finds, and the contents at the end."""
    gone = [pair for pair in left_out if isinstance(pair[1], int) and not isinstance(pair[1], bool)]
    content = {}
    steps = []
    for frame in range(frames):
        for job in web.jobs:
            if (job, frame) in gone:
                finds = _leave_out(web, job, frame, content)
            else:
                finds = _do(web, job, frame, content)
            steps.append((job, frame, tuple(finds)))
    return steps, content


def _do(web, job, frame, content):
    finds = []
    for use in web.uses(job):
        if use[0] == "update":
            finds.append((use[1], frame, content.get((use[1], frame))))
        if use[0] == "read" and use[2] <= frame:
            finds.append((use[1], frame - use[2], content.get((use[1], frame - use[2]))))
    for use in web.uses(job):
        if use[0] != "read":
            content[use[1], frame] = (job, frame, use[1])
    return finds


def _leave_out(web, job, frame, content):
    word, buffer = [use for use in web.uses(job) if use[0] in ("keep", "carry")][0]
    before = content[buffer, frame - 1] if frame > 0 else None
    content[buffer, frame] = before
    return [(buffer, frame - 1, before)] if word == "carry" and frame > 0 else []


def ties(plan):
    """The ties as point 8 tells them."""
    found = [(of, job, -back) for job, of, back in plan.waits]
    rows = list(plan.rows.values())
    for row in rows:
        for at in range(len(row) - 1):
            found.append((row[at], row[at + 1], 0))
        found.append((row[-1], row[0], -1))
        for other in rows:
            if other != row and plan.depth is not None:
                found.append((row[-1], other[0], -plan.depth))
    return tuple(sorted(
        tie for tie in set(found)
        if not any(one[:2] == tie[:2] and one[2] > tie[2] for one in found)
    ))


def later(plan, frames):
    """For each step of these frames the steps that come after it in every run."""
    behind = {}
    for job in plan.web.jobs:
        for frame in range(frames):
            behind[job, frame] = set()
    for before, after, lead in ties(plan):
        for frame in range(frames):
            if frame + lead >= 0:
                behind[before, frame + lead].add((after, frame))
    return behind


def reached(behind, step):
    """All steps that come after this step in every run (the step itself if it waits for itself)."""
    found = set()
    rest = list(behind[step])
    while rest:
        one = rest.pop()
        if one not in found:
            found.add(one)
            rest.extend(behind[one])
    return found


def stands_still(plan):
    """Whether some step waits for itself."""
    behind = later(plan, 1)
    return any(step in reached(behind, step) for step in behind)


def leads(plan):
    """The lead of each two jobs, by which steps of 18 frames come after others."""
    # from the frame 17 of i, a lead of -w is seen as the step of j in the frame 17 + w
    behind = later(plan, 18 + 17)
    found = {}
    for of in plan.web.jobs:
        frames = {}
        for job, frame in reached(behind, (of, 17)):
            frames[job] = min(frame, frames.get(job, frame))
        for job in frames:
            found[of, job] = 17 - frames[job]
    return found


def all_ways(plan, of, job, most):
    """All ways of up to this many ties from one job to another."""
    links = ties(plan)
    found = []
    rest = [(tie,) for tie in links if tie[0] == of]
    while rest:
        found.extend(one for one in rest if one[-1][1] == job)
        rest = [(*one, tie) for one in rest for tie in links if len(one) < most and tie[0] == one[-1][1]]
    return found


def is_ring(plan, ring):
    """Whether this is a standstill of the plan."""
    if not isinstance(ring, tuple) or not ring:
        return False
    starts = [tie[0] for tie in ring]
    joined = all(tie[0] == ring[at - 1][1] for at, tie in enumerate(ring))
    ties_in_plan = all(isinstance(tie, tuple) and tie in plan.ties and tie[2] == 0 for tie in ring)
    return joined and ties_in_plan and len(set(starts)) == len(starts)


def needs(web):
    """The needs as point 15 tells them."""
    found = set()
    place = web.jobs.index
    for buffer in web.buffers:
        uses = web.uses_of(buffer)
        writers = [job for job, _, word in uses if word != "read"]
        for job, age, word in uses:
            ahead = [one for one in writers if place(one) < place(job)]
            if word == "update":
                found.add((ahead[-1], job, 0))
                for reader, back, kind in uses:
                    if kind == "read" and back == 0 and place(ahead[-1]) < place(reader) < place(job):
                        found.add((reader, job, 0))
            if word == "read" and age == 0:
                found.add((ahead[-1], job, 0))
            if word == "read" and age > 0:
                found.add((writers[-1], job, age))
            if word == "carry":
                found.add((writers[-1], job, 1))
    return tuple(sorted(found))


def plain_int(value):
    """Whether a value is an integer as the document understands it."""
    return value.__class__ is int


def is_tie_of(plan, value):
    """Whether any value is a tie of the plan, kinds included."""
    if value.__class__ is not tuple or len(value) != 3 or not plain_int(value[2]):
        return False
    return any(value == tie for tie in ties(plan))


def fault_of_table(plan, thing):
    """Why any value is no lead table, as the document lists it; None if it is one."""
    jobs = plan.web.jobs
    if thing.__class__ is not tuple:
        return ("shape", -1)
    for row in thing:
        if row.__class__ is not tuple or len(row) != 5:
            return ("shape", -1)
        of, job, lead, steps, last = row
        if of not in jobs or job not in jobs or not plain_int(lead) or last.__class__ is not tuple:
            return ("shape", -1)
        if not plain_int(steps) or steps not in range(1, 100):
            return ("shape", -1)
    for at in range(1, len(thing)):
        if not thing[at][:2] > thing[at - 1][:2]:
            return ("order", at)
    for at, (of, job, lead, steps, last) in enumerate(thing):
        if not is_tie_of(plan, last) or last[1] != job:
            return ("entry", at)
        if steps == 1 and (last[0] != of or last[2] != lead):
            return ("entry", at)
        if steps > 1:
            bases = [row for row in thing if row[:2] == (of, last[0])]
            if not any(row[2] == lead - last[2] and row[3] == steps - 1 for row in bases):
                return ("entry", at)
    for at, row in enumerate(thing):
        if row[0] == row[1] and row[2] >= 0:
            return ("still", at)
    for at, (x, y, w) in enumerate(ties(plan)):
        if not any(row[:2] == (x, y) and row[2] >= w for row in thing):
            return ("tie", at)
        for of, job, lead, _, _ in thing:
            if job == x and not any(row[:2] == (of, y) and row[2] >= lead + w for row in thing):
                return ("tie", at)
    for at, (x, y, w) in enumerate(ties(plan)):
        if any(row[:2] == (x, y) and row[2] == w and row[3] > 1 for row in thing):
            return ("steps", at)
        for of, job, lead, steps, _ in thing:
            if job == x and any(row[:2] == (of, y) and row[2] == lead + w and row[3] > steps + 1 for row in thing):
                return ("steps", at)
    return None


def fault_of_flow(plan, thing):
    """Why any value is nothing that `flow` may return, as the document lists it; None if it is."""
    if thing.__class__ is tuple and len(thing) == 3 and thing[0] == "timetable" and thing[1].__class__ is tuple:
        return _fault_of_timetable(plan, thing[1], thing[2])
    if thing.__class__ is tuple and len(thing) == 2 and thing[0] == "ring" and thing[1].__class__ is tuple:
        if thing[1]:
            return _fault_of_ring(plan, thing[1])
    return ("shape", -1)


def _fault_of_timetable(plan, starts, period):
    for at, start in enumerate(starts):
        if not plain_int(start) or start < 0:
            return ("start", at)
    if len(starts) != len(plan.web.jobs):
        return ("start", len(plan.web.jobs))
    if not plain_int(period) or period < 1:
        return ("period", -1)
    place = plan.web.jobs.index
    for at, (before, after, lead) in enumerate(ties(plan)):
        if not starts[place(before)] + 1 + period * lead <= starts[place(after)]:
            return ("tie", at)
    return None


def _fault_of_ring(plan, ring):
    for at, tie in enumerate(ring):
        if not is_tie_of(plan, tie) or tie[2] != 0:
            return ("ring", at)
    for at, tie in enumerate(ring):
        ahead = ring[at - 1] if at > 0 else ring[len(ring) - 1]
        if tie[0] != ahead[1] or any(one[0] == tie[0] for one in ring[:at]):
            return ("ring", at)
    return None


def next_frame(steps, job):
    """The lowest frame in which this job has neither been done nor left out."""
    frame = 0
    while any(step[:2] == (job, frame) for step in steps):
        frame += 1
    return frame


def is_ready(plan, steps, job):
    """Whether the next step of a job may come behind these steps, as point 7 tells it."""
    ended = {step[:2] for step in steps}
    frame = next_frame(steps, job)
    rows = list(plan.rows.values())
    row = [one for one in rows if job in one][0]
    place = row.index(job)
    # the next one of its row: what the queue runs before it is over
    before = [(one, frame) for one in row[:place]] + [(one, frame - 1) for one in row[place:]]
    awaited = [(of, frame - back) for one, of, back in plan.waits if one == job]
    if plan.depth is not None and place == 0:
        awaited += [(other[-1], frame - plan.depth) for other in rows if other != row]
    return all(step in ended for step in before + awaited if step[1] >= 0)


def home(plan, buffer, frame):
    """The index of the group and the slot in which an instance lives, as point 9 tells it."""
    for at, (count, members) in enumerate(plan.sharing):
        for name, shift in members:
            if name == buffer:
                return (at, (frame + shift) % count)
    raise AssertionError(buffer)


def slow_run(plan, steps):
    """A run as points 10 and 11 tell it: the finds of each step, all wrong finds, the slots."""
    slots, finds, wrong = {}, [], []
    for at, (job, frame, gone) in enumerate(steps):
        found = _slow_leave(plan, job, frame, slots) if gone else _slow_do(plan, job, frame, slots)
        finds.append(found)
        due = right_finds(plan, steps[:at + 1])
        wrong += [(job, frame, one, other) for one, other in zip(found, due) if one != other]
    return finds, wrong, slots


def right_finds(plan, steps):
    """The finds of the last of these steps in the plain run that leaves out what they leave out."""
    job, frame, _ = steps[-1]
    gone = [step[:2] for step in steps if step[2]]
    done, _ = plain_steps(plan.web, frame + 1, gone)
    return [found for one, at, found in done if (one, at) == (job, frame)][0]


def _slow_do(plan, job, frame, slots):
    uses = plan.web.uses(job)
    for use in uses:
        if use[0] in ("make", "keep", "carry"):
            slots[home(plan, use[1], frame)] = None
    finds = []
    for use in uses:
        age = use[2] if use[0] == "read" else 0
        if use[0] in ("read", "update") and age <= frame:
            finds.append((use[1], frame - age, slots.get(home(plan, use[1], frame - age))))
    for use in uses:
        if use[0] != "read":
            slots[home(plan, use[1], frame)] = (job, frame, use[1])
    return tuple(finds)


def _slow_leave(plan, job, frame, slots):
    word, buffer = [use for use in plan.web.uses(job) if use[0] in ("keep", "carry")][0]
    if word == "keep":
        return ()
    if frame == 0:
        slots[home(plan, buffer, 0)] = None
        return ()
    content = slots.get(home(plan, buffer, frame - 1))
    slots[home(plan, buffer, frame)] = content
    return ((buffer, frame - 1, content),)


def shows_fault(plan, steps):
    """Whether these steps are a run that ends with its first wrong find."""
    if not isinstance(steps, tuple) or not 1 <= len(steps) <= 4000:
        return False
    for at, (job, frame, gone) in enumerate(steps):
        if next_frame(steps[:at], job) != frame or not is_ready(plan, steps[:at], job):
            return False
        if gone.__class__ is not bool or (gone and not plan.web.can_be_left_out(job)):
            return False
    _, wrong, _ = slow_run(plan, steps)
    return len(wrong) > 0 and all(one[:2] == steps[-1][:2] for one in wrong)


def life_uses(web, buffer, follower):
    """The life uses of a buffer behind which this follower comes, as point 16 tells them."""
    found = []
    for job in web.jobs:
        for use in web.uses(job):
            if use[1] == buffer:
                found.append((job, use[2] if use[0] == "read" else 0))
            if use == ("carry", buffer) and follower != buffer:
                found.append((job, 1))
    return found


def cost(plan, r, s, most=24):
    """The cost of s behind r: the least c such that all is over before s of c frames later begins."""
    frame = 18
    behind = later(plan, frame + most + 1)
    uses = [(job, frame + age) for job, age in life_uses(plan.web, r, s)]
    for c in range(most):
        if all((plan.web.maker(s), frame + c) in reached(behind, use) for use in uses):
            return max(c, 1) if r == s else c
    return None


def clashes(plan, costs):
    """All (r, s, d) with d up to 450 at which buffers of one group clash, by these costs."""
    found = []
    for r in plan.web.buffers:
        for s in plan.web.buffers:
            for d in range(-450, 451):
                if r > s or (r == s and d == 0) or home(plan, r, 500) != home(plan, s, 500 + d):
                    continue
                ahead = costs[r, s] is None or d < costs[r, s]
                if ahead and (costs[s, r] is None or -d < costs[s, r]):
                    found.append((r, s, d))
    return found


def nearest_clashes(plan, costs):
    """Of these clashes of each two buffers the one with the least absolute value."""
    found = {}
    for r, s, d in clashes(plan, costs):
        if (r, s) not in found or (abs(d), -d) < (abs(found[r, s]), -found[r, s]):
            found[r, s] = d
    return [(r, s, found[r, s]) for r, s in sorted(found)]
