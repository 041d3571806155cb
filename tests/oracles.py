"""Slow and plain ways to what the program computes, taken word by word from the document."""


def plain_steps(web, frames, left_out=()):
    """The plain run, done step by step: the steps with their finds, and the contents at the end."""
    gone = [pair for pair in left_out if isinstance(pair[1], int) and not isinstance(pair[1], bool)]
    content = {}
    steps = []
    for frame in range(frames):
        for job in web.jobs:
            if (job, frame) in gone:
                finds = _leave_out(web, job, frame, content)
            else:
                finds = _do(web, job, frame, content)
            steps.append((job, frame, tuple(finds)))
    return steps, content


def _do(web, job, frame, content):
    finds = []
    for use in web.uses(job):
        if use[0] == "update":
            finds.append((use[1], frame, content.get((use[1], frame))))
        if use[0] == "read" and use[2] <= frame:
            finds.append((use[1], frame - use[2], content.get((use[1], frame - use[2]))))
    for use in web.uses(job):
        if use[0] != "read":
            content[use[1], frame] = (job, frame, use[1])
    return finds


def _leave_out(web, job, frame, content):
    word, buffer = [use for use in web.uses(job) if use[0] in ("keep", "carry")][0]
    before = content[buffer, frame - 1] if frame > 0 else None
    content[buffer, frame] = before
    return [(buffer, frame - 1, before)] if word == "carry" and frame > 0 else []


def ties(plan):
    """The ties as point 8 tells them."""
    found = [(of, job, -back) for job, of, back in plan.waits]
    rows = list(plan.rows.values())
    for row in rows:
        for at in range(len(row) - 1):
            found.append((row[at], row[at + 1], 0))
        found.append((row[-1], row[0], -1))
        for other in rows:
            if other != row and plan.depth is not None:
                found.append((row[-1], other[0], -plan.depth))
    return tuple(sorted(
        tie for tie in set(found)
        if not any(one[:2] == tie[:2] and one[2] > tie[2] for one in found)
    ))


def later(plan, frames):
    """For each step of these frames the steps that come after it in every run."""
    behind = {}
    for job in plan.web.jobs:
        for frame in range(frames):
            behind[job, frame] = set()
    for before, after, lead in ties(plan):
        for frame in range(frames):
            if frame + lead >= 0:
                behind[before, frame + lead].add((after, frame))
    return behind


def reached(behind, step):
    """All steps that come after this step in every run (the step itself if it waits for itself)."""
    found = set()
    rest = list(behind[step])
    while rest:
        one = rest.pop()
        if one not in found:
            found.add(one)
            rest.extend(behind[one])
    return found


def stands_still(plan):
    """Whether some step waits for itself."""
    behind = later(plan, 1)
    return any(step in reached(behind, step) for step in behind)


def leads(plan):
    """The lead of each two jobs, by which steps of 18 frames come after others."""
    # from the frame 17 of i, a lead of -w is seen as the step of j in the frame 17 + w
    behind = later(plan, 18 + 17)
    found = {}
    for of in plan.web.jobs:
        frames = {}
        for job, frame in reached(behind, (of, 17)):
            frames[job] = min(frame, frames.get(job, frame))
        for job in frames:
            found[of, job] = 17 - frames[job]
    return found


def all_ways(plan, of, job, most):
    """All ways of up to this many ties from one job to another."""
    links = ties(plan)
    found = []
    rest = [(tie,) for tie in links if tie[0] == of]
    while rest:
        found.extend(one for one in rest if one[-1][1] == job)
        rest = [(*one, tie) for one in rest for tie in links if len(one) < most and tie[0] == one[-1][1]]
    return found


def is_ring(plan, ring):
    """Whether this is a standstill of the plan."""
    if not isinstance(ring, tuple) or not ring:
        return False
    starts = [tie[0] for tie in ring]
    joined = all(tie[0] == ring[at - 1][1] for at, tie in enumerate(ring))
    ties_in_plan = all(isinstance(tie, tuple) and tie in plan.ties and tie[2] == 0 for tie in ring)
    return joined and ties_in_plan and len(set(starts)) == len(starts)


def needs(web):
    """The needs as point 15 tells them."""
    found = set()
    place = web.jobs.index
    for buffer in web.buffers:
        uses = web.uses_of(buffer)
        writers = [job for job, _, word in uses if word != "read"]
        for job, age, word in uses:
            ahead = [one for one in writers if place(one) < place(job)]
            if word == "update":
                found.add((ahead[-1], job, 0))
                for reader, back, kind in uses:
                    if kind == "read" and back == 0 and place(ahead[-1]) < place(reader) < place(job):
                        found.add((reader, job, 0))
            if word == "read" and age == 0:
                found.add((ahead[-1], job, 0))
            if word == "read" and age > 0:
                found.add((writers[-1], job, age))
            if word == "carry":
                found.add((writers[-1], job, 1))
    return tuple(sorted(found))
